"""wholeorders.ranks: the orders that a list lets, by the sequence of their whole words, and draws of them."""

import unittest
from itertools import product

from tests.helpers import (ENDLESS_LISTS, MOST_STATES, NO_INTEGERS, NO_LISTS, NO_NUMBERS, NO_ORDERS, NOTHING, RISING,
                           STOPPING_LISTS, TWO, Case, all_orders, slow_lets, slow_word)
from wholeorders.counts import counts
from wholeorders.errors import InvalidList, InvalidNumber, InvalidOrder, InvalidPair, InvalidTape, NoMachine, NotLet
from wholeorders.ranks import drawn, next_order, nth, place_of

NO_TAPES = (None, 3, "01", "", [], [0, 1], (2,), (0, -1), (0, 1, 2), (True,), (0, False), ("0",), (None,), ((0,),), {})
ONE_ALONE = ((1, 2), (2, 1))
QUICK_LISTS = STOPPING_LISTS[:10]


def let_by_words(forbidden, n):
    """Return the orders of n things that a list lets, in the sequence of their whole words."""
    return sorted([order for order in all_orders(n) if slow_lets(forbidden, order)], key=slow_word)


def slow_draw(many, tape):
    """Return (number, how many bits were read), or None, as the document says it."""
    size = min(bits for bits in range(20) if 2 ** bits >= many)
    read = 0
    while read + size <= len(tape):
        number = sum(bit * 2 ** (size - 1 - at) for at, bit in enumerate(tape[read:read + size]))
        read += size
        if number < many:
            return number, read
    return None


class RanksTest(Case):
    def test_the_ith_order_and_its_place_lead_back_to_one_another(self):
        for forbidden in STOPPING_LISTS:
            for n in range(6 if forbidden in QUICK_LISTS else 5):
                let = let_by_words(forbidden, n)
                self.assertEqual([nth(forbidden, n, i) for i in range(len(let))], let)
                self.assertEqual([place_of(forbidden, order) for order in let], list(range(len(let))))
                self.assertEqual([next_order(forbidden, order) for order in let], let[1:] + [None] * min(1, len(let)))
                self.assert_raises(InvalidNumber, len(let), nth, forbidden, n, len(let))

    def test_what_is_not_let(self):
        for forbidden in QUICK_LISTS:
            for n in range(6):
                for order in all_orders(n):
                    if not slow_lets(forbidden, order):
                        self.assert_raises(NotLet, order, place_of, forbidden, order)
                        self.assert_raises(NotLet, order, next_order, forbidden, order)

    def test_no_things_and_one(self):
        for forbidden in STOPPING_LISTS:
            self.assertEqual(nth(forbidden, 0, 0), ())
            self.assertEqual(place_of(forbidden, ()), 0)
            self.assertIsNone(next_order(forbidden, ()))
            self.assertEqual(drawn(forbidden, 0, ()), ((), 0))
            self.assertEqual(drawn(forbidden, 0, (1, 0)), ((), 0))
        self.assertEqual([nth(TWO, 1, 0), place_of(TWO, (1,)), next_order(TWO, (1,))], [(1,), 0, None])
        self.assertEqual(drawn(TWO, 1, ()), ((1,), 0))
        self.assert_raises(NotLet, (1,), place_of, NOTHING, (1,))
        self.assert_raises(InvalidNumber, 0, nth, NOTHING, 1, 0)

    def test_many_things(self):
        self.assertEqual(nth(RISING, 40, 0), tuple(range(1, 41)))
        self.assertEqual(place_of(RISING, tuple(range(1, 41))), 0)
        self.assertIsNone(next_order(RISING, tuple(range(1, 41))))
        self.assertEqual(drawn(RISING, 40, (0, 1)), (tuple(range(1, 41)), 0))
        many = counts(TWO, 40)[40]
        self.assertEqual(many, 2 ** 39)
        self.assertEqual(nth(TWO, 40, many - 1), tuple(range(40, 0, -1)))
        self.assertIsNone(next_order(TWO, tuple(range(40, 0, -1))))
        for i in (0, 1, 2 ** 20, 3 ** 24, many - 2):
            order = nth(TWO, 40, i)
            self.assertEqual(place_of(TWO, order), i)
            self.assertEqual(next_order(TWO, order), nth(TWO, 40, i + 1))
        bits = tuple(3 ** 24 >> at & 1 for at in range(38, -1, -1))
        self.assertEqual(drawn(TWO, 40, bits + (1,)), (nth(TWO, 40, 3 ** 24), 39))
        self.assertIsNone(drawn(TWO, 40, bits[:38]))

    def test_machines_of_as_many_states_as_there_may_be(self):
        many = counts(MOST_STATES, 40)[40]
        for i in (0, many // 3, many - 1):
            order = nth(MOST_STATES, 40, i)
            self.assertEqual(sorted(order), list(range(1, 41)))
            self.assertEqual(place_of(MOST_STATES, order), i)
        self.assertIsNone(next_order(MOST_STATES, nth(MOST_STATES, 40, many - 1)))
        self.assert_raises(InvalidNumber, many, nth, MOST_STATES, 40, many)
        self.assertEqual([nth(MOST_STATES, 4, i) for i in range(22)], let_by_words(MOST_STATES, 4))

    def test_errors(self):
        for told in NO_LISTS:
            self.assert_raises(InvalidList, told, nth, told, -1, -1)
            self.assert_raises(InvalidList, told, place_of, told, None)
            self.assert_raises(InvalidList, told, next_order, told, None)
            self.assert_raises(InvalidList, told, drawn, told, -1, None)
        for forbidden, kind in ENDLESS_LISTS:
            self.assert_raises(NoMachine, kind, nth, forbidden, -1, -1)
            self.assert_raises(NoMachine, kind, place_of, forbidden, None)
            self.assert_raises(NoMachine, kind, next_order, forbidden, None)
            self.assert_raises(NoMachine, kind, drawn, forbidden, -1, None)
        for n in NO_NUMBERS:
            self.assert_raises(InvalidNumber, n, nth, TWO, n, "i")
            self.assert_raises(InvalidNumber, n, drawn, TWO, n, "tape")
        for i in NO_INTEGERS + (-1, 4, 10 ** 30):
            self.assert_raises(InvalidNumber, i, nth, TWO, 3, i)
        for told in NO_ORDERS:
            self.assert_raises(InvalidOrder, told, place_of, TWO, told)
            self.assert_raises(InvalidOrder, told, next_order, TWO, told)


class DrawsTest(Case):
    def test_each_bit_that_is_read(self):
        for forbidden in QUICK_LISTS:
            for n in range(4):
                let = let_by_words(forbidden, n)
                for size in range(7):
                    for tape in product((0, 1), repeat=size) if let else ():
                        told = slow_draw(len(let), tape)
                        told = told if told is None else (let[told[0]], told[1])
                        self.assertEqual(drawn(forbidden, n, tape), told)

    def test_of_the_tapes_of_each_length_as_many_draw_one_order_as_another(self):
        for forbidden, n in ((TWO, 3), (STOPPING_LISTS[5], 3), (STOPPING_LISTS[7], 4), (ONE_ALONE, 1), (NOTHING, 0)):
            for size in range(8):
                times = {order: 0 for order in let_by_words(forbidden, n)}
                for tape in product((0, 1), repeat=size):
                    told = drawn(forbidden, n, tape)
                    if told is not None:
                        times[told[0]] += 1
                self.assertEqual(len(set(times.values())), 1)

    def test_no_orders(self):
        self.assert_raises(InvalidPair, (1, 0), drawn, NOTHING, 1, ())
        self.assert_raises(InvalidPair, (2, 0), drawn, ONE_ALONE, 2, (1, 0, 1))
        self.assert_raises(InvalidPair, (40, 0), drawn, ONE_ALONE, 40, (1,))

    def test_tapes_that_do_not_suffice(self):
        self.assertEqual([drawn(TWO, 2, ()), drawn(TWO, 2, (0,)), drawn(TWO, 3, (1,))], [None, ((1, 2), 1), None])
        five = ((1, 2, 3), (2, 3, 1))
        self.assertEqual(counts(five, 3)[3], 4)
        self.assertEqual(counts(five, 4)[4], 7)
        self.assertIsNone(drawn(five, 4, (1, 1, 1, 1, 1, 1, 0, 1)))
        self.assertEqual(drawn(five, 4, (1, 1, 1, 0, 1, 0, 1)), (nth(five, 4, 2), 6))

    def test_errors(self):
        for told in NO_TAPES:
            self.assert_raises(InvalidTape, told, drawn, TWO, 3, told)
            self.assert_raises(InvalidTape, told, drawn, NOTHING, 3, told)


if __name__ == "__main__":
    unittest.main()
