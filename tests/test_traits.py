"""wholeorders.traits: what hangs on an order, and how it is put together of the traits of its parts."""

import random
import unittest

from tests.helpers import NO_LISTS, NO_ORDERS, NOTHING, RISING, TWO, Case, all_orders, all_simple, orders_to, slow_lets
from tests.slow_facts import (EIGHT_LEAVES, EVEN, FACTS, NO_FACTS, SIX_DEEP, slow_counting, slow_hooked, slow_put,
                              slow_traits, slow_truth)
from wholeorders.blocks import parts, put_together, skew_parts, split
from wholeorders.errors import InvalidFact, InvalidList, InvalidNode, InvalidOrder, InvalidPair, InvalidPaper
from wholeorders.patterns import pattern_of
from wholeorders.traits import is_let, is_traits, is_true_of, put_traits, traits

LISTS = ((), NOTHING, RISING, TWO, ((2, 4, 1, 3), (1, 2, 3)), ((2, 1), (2, 1)), ((3, 1, 4, 2), (5, 2, 4, 1, 3)))
ONE = (0, ((0, 0, 1, 0, 0), (0, 0, 1, 0, 1), (0, 0, 1, 1, 0), (0, 0, 1, 1, 1), (0, 1, 2, 0, 0), (0, 1, 2, 0, 1),
           (0, 1, 2, 1, 0), (0, 1, 2, 1, 1)), (("things", 1, 0),))
WIDE = (4, 7, 2, 5, 8, 1, 6, 3)
NO_NODES = (None, 3, "", (), (1,), (1, 2, 3), (2, 3, 1), [1, 2], [2, 4, 1, 3], (2, 1, 4, 3), (True, 2), (1, 3), (1, 1),
            (2.0, 1.0), (2, 4, 1, "3"))


def no_rows(row):
    """Return what has not the form of traits, row being traits of one thing for ((2, 1),) and a fact of things by 2."""
    kind, pieces, numbers = row
    wrong_pieces = (
        None, 3, list(pieces), pieces[::-1], pieces + pieces[-1:], pieces[:1] + pieces, pieces + ((1, 0, 1, 0, 0),),
        ((-1, 0, 1, 0, 0),), ((0, 0, 0, 0, 0),), ((0, 1, 0, 0, 0),), ((0, 0, 3, 0, 0),), ((0, -1, 1, 0, 0),),
        ((0, 2, 3, 0, 0),), ((0, 0, 1, 2, 0),), ((0, 0, 1, 0, -1),), ((0, 0, 1, 0),), ((0, 0, 1, 0, 0, 0),),
        ([0, 0, 1, 0, 0],), ((False, 0, 1, 0, 0),), ((0, 0, 1, True, 0),), ((0, 0, 1, 0, None),), (None,), ((),), "01")
    wrong_numbers = (
        None, 3, (), list(numbers), numbers + numbers, (("turns", 1, 0),), (("things", 2, 0),), (("things", -1, 0),),
        (("things", 1, 1),), (("things", 1, -1),), (("things", True, 0),), (("things", 1, False),), (("things", 1),),
        (("things", 1, 0, 0),), (["things", 1, 0],), (None,), ("things", 1, 0), ((None, 1, 0),), (("tops", 1, 0),))
    return [None, 3, "", (), [], list(row), row[:2], row + (0,), (None,) + row[1:], (4,) + row[1:], (-1,) + row[1:],
            (True,) + row[1:], ("0",) + row[1:]] + [
        (kind, wrong, numbers) for wrong in wrong_pieces] + [(kind, pieces, wrong) for wrong in wrong_numbers]


def bent_row(chance, forbidden, fact):
    """Return something of the form of traits, of no order."""
    pieces = []
    for index, (pattern, _) in enumerate(slow_hooked(forbidden, fact)):
        pieces += [(index, start, end, left, right) for start in range(len(pattern))
                   for end in range(start + 1, len(pattern) + 1) for left in (0, 1) for right in (0, 1)]
    kept = tuple(piece for piece in pieces if chance.random() < 0.5)
    numbers = tuple((name, chance.randrange(modulus), chance.randint(0, number))
                    for name, modulus, number in slow_counting(fact))
    return chance.randrange(4), kept, numbers


class TraitsTest(Case):
    def test_by_all_places(self):
        for forbidden in LISTS:
            for fact in FACTS:
                for order in orders_to(3)[1:] + [(2, 4, 1, 3), (4, 3, 1, 2), (3, 1, 2, 4), (2, 5, 3, 1, 4)]:
                    found = traits(forbidden, fact, order)
                    self.assertEqual(found, slow_traits(forbidden, fact, order))
                    self.assertIs(is_traits(forbidden, fact, found), True)
                    self.assertIs(is_let(forbidden, fact, found), slow_lets(forbidden, order))
                    self.assertIs(is_true_of(forbidden, fact, found), slow_truth(fact, order))

    def test_all_orders_of_few_things(self):
        for forbidden, fact in (((), EIGHT_LEAVES), (TWO, SIX_DEEP), (((2, 4, 1, 3),), ("shows", (1, 3, 2), (-1, 1)))):
            for order in orders_to(5)[1:]:
                self.assertEqual(traits(forbidden, fact, order), slow_traits(forbidden, fact, order))

    def test_long_ones(self):
        for order in ((3, 1, 4, 7, 5, 9, 2, 6, 8), tuple(range(1, 13)), (2, 4, 6, 8, 10, 12, 1, 3, 5, 7, 9, 11)):
            told = ("both", EIGHT_LEAVES, ("shows", (3, 1, 4, 2), (-1, 2)))
            self.assertEqual(traits(((2, 4, 1, 3),), told, order), slow_traits(((2, 4, 1, 3),), told, order))

    def test_told_ones(self):
        self.assertEqual(traits(RISING, EVEN, (1,)), ONE)
        self.assertEqual(traits((), ("rest", "turns", 3, 0), (3, 2, 1)), (2, (), (("things", 0, 0), ("turns", 0, 0))))
        self.assertEqual(traits((), ("least", "turns", 2), (3, 2, 1)), (2, (), (("things", 0, 2), ("turns", 0, 2))))
        two = ("both", ("rest", "things", 4, 1), ("both", ("least", "things", 5), ("rest", "turns", 6, 0)))
        self.assertEqual(traits((), two, (2, 3, 1))[2], (("things", 3, 3), ("turns", 2, 0)))
        twice = ("either", ("shows", (1,), ()), ("shows", (1,), ()))
        self.assertEqual(traits((), twice, (1,))[1], tuple((i, 0, 1, l, r) for i in (0, 1) for l in (0, 1) for r in (0, 1)))

    def test_errors(self):
        for told in NO_LISTS:
            self.assert_raises(InvalidList, told, traits, told, None, ())
        for told in NO_FACTS:
            self.assert_raises(InvalidFact, told, traits, RISING, told, ())
        for told in NO_ORDERS + ((),):
            self.assert_raises(InvalidOrder, told, traits, RISING, EVEN, told)


class FormTest(Case):
    def test_which_have_the_form(self):
        self.assertIs(is_traits(RISING, EVEN, ONE), True)
        for told in no_rows(ONE):
            self.assertIs(is_traits(RISING, EVEN, told), False, told)
        self.assertIs(is_traits(RISING, EVEN, (3, (), (("things", 0, 0),))), True)
        self.assertIs(is_traits((), ("shows", (1,), ()), (2, (), ())), True)
        self.assertIs(is_traits((), ("least", "turns", 3), (2, (), (("things", 0, 3), ("turns", 0, 3)))), True)
        self.assertIs(is_traits((), ("least", "turns", 3), (2, (), (("things", 0, 4), ("turns", 0, 3)))), False)
        self.assertIs(is_traits((), ("least", "turns", 3), (2, (), (("turns", 0, 3),))), False)
        self.assertIs(is_traits((), ("least", "turns", 3), (2, (), (("turns", 0, 3), ("things", 0, 3)))), False)

    def test_by_the_traits(self):
        """Whatever left and right are, a pattern of the list is whole; one of the fact by its bonds alone."""
        fact = ("shows", (2, 1), (-1, 1))
        for left in (0, 1):
            for right in (0, 1):
                self.assertIs(is_let(RISING, fact, (0, ((0, 0, 2, left, right),), ())), False)
                self.assertIs(is_let(RISING, fact, (0, ((1, 0, 2, left, right),), ())), True)
                self.assertIs(is_true_of(RISING, fact, (0, ((1, 0, 2, left, right),), ())), left == right == 1)
                self.assertIs(is_true_of(RISING, ("shows", (2, 1), (0,)), (0, ((1, 0, 2, left, right),), ())),
                              left == right == 0)
                self.assertIs(is_true_of(RISING, fact, (0, ((0, 0, 2, left, right),), ())), False)
        either = ("either", ("not", ("shows", (1,), ())), ("shows", (1,), ()))
        self.assertIs(is_true_of((), either, (0, ((0, 0, 1, 0, 0),), ())), False)
        self.assertIs(is_true_of((), either, (0, ((0, 0, 1, 0, 0), (1, 0, 1, 0, 0)), ())), True)
        both = ("both", ("rest", "tops", 2, 1), ("both", ("rest", "tops", 3, 2), ("least", "tops", 4)))
        self.assertEqual([is_true_of((), both, (0, (), (("tops", rest, few),))) for rest, few in ((5, 4), (5, 3), (2, 4))],
                         [True, False, False])

    def test_errors(self):
        for function in (is_traits, is_let, is_true_of):
            for told in NO_LISTS:
                self.assert_raises(InvalidList, told, function, told, None, None)
            for told in NO_FACTS:
                self.assert_raises(InvalidFact, told, function, RISING, told, None)
        for function in (is_let, is_true_of):
            for told in no_rows(ONE):
                self.assert_raises(InvalidPaper, told, function, RISING, EVEN, told)


class PutTest(Case):
    def test_chance_rows(self):
        """Of any things of the form of traits, of orders or not, by all ways to deal out the things."""
        chance = random.Random(20)
        nodes = [(1, 2), (2, 1)] + all_simple(4) + all_simple(5)[:3]
        for forbidden in LISTS:
            for fact in FACTS[:14] + (EIGHT_LEAVES,):
                node = chance.choice(nodes)
                rows = tuple(bent_row(chance, forbidden, fact) for _ in node)
                self.assertEqual(put_traits(forbidden, fact, node, rows), slow_put(forbidden, fact, node, rows))

    def test_of_orders(self):
        chance = random.Random(30)
        nodes = [(1, 2), (2, 1)] * 6 + all_simple(4) * 3 + all_simple(5) + all_simple(6)[:4] + [WIDE]
        for forbidden in LISTS:
            for fact in FACTS:
                node = chance.choice(nodes)
                orders = tuple(chance.choice(orders_to(3)[1:]) for _ in node)
                rows = tuple(traits(forbidden, fact, order) for order in orders)
                self.assertEqual(put_traits(forbidden, fact, node, rows),
                                 traits(forbidden, fact, put_together(node, orders)))

    def test_node_by_node_wherever_a_sum_is_cut(self):
        for forbidden, fact in ((TWO, SIX_DEEP), (((2, 4, 1, 3),), EIGHT_LEAVES), ((), ("shows", (2, 1, 3), (-1, 0, 1, 2)))):
            for order in all_orders(4) + all_simple(5) + [(2, 1, 3, 5, 4), (5, 4, 1, 3, 2)]:
                cut = [((1, 2), end) for end in range(1, len(order)) if sorted(order[:end])[-1] == end]
                cut += [((2, 1), end) for end in range(1, len(order)) if sorted(order[end:])[-1] == len(order) - end]
                self.assertEqual(len(cut), len(parts(order)) + len(skew_parts(order)) - 2)
                for node, end in cut:
                    rows = (traits(forbidden, fact, pattern_of(order[:end])), traits(forbidden, fact, pattern_of(order[end:])))
                    self.assertEqual(put_traits(forbidden, fact, node, rows), traits(forbidden, fact, order))
                kind, head, orders = split(order)
                if kind == "simple":
                    rows = tuple(traits(forbidden, fact, one) for one in orders)
                    self.assertEqual(put_traits(forbidden, fact, head, rows), traits(forbidden, fact, order))

    def test_nodes_of_eight_things(self):
        fact = ("both", ("rest", "turns", 4, 1), ("shows", (2, 1, 3), (0,)))
        orders = ((1,), (2, 1), (1,), (1, 2), (1,), (1,), (2, 1), (1,))
        rows = tuple(traits(TWO, fact, order) for order in orders)
        self.assertEqual(put_traits(TWO, fact, WIDE, rows), slow_put(TWO, fact, WIDE, rows))
        self.assertEqual(put_traits(TWO, fact, WIDE, rows), traits(TWO, fact, put_together(WIDE, orders)))

    def test_bonds_between_children(self):
        fact = ("shows", (2, 1), (0,))
        one = traits((), fact, (1,))
        self.assertIn((0, 0, 2, 0, 0), put_traits((), fact, (2, 1), (one, one))[1])
        self.assertNotIn((0, 0, 2, 0, 0), put_traits((), fact, (1, 2), (one, one))[1])
        rising = traits((), fact, (1, 2))
        self.assertIn((0, 0, 2, 0, 0), put_traits((), fact, (2, 1), (rising, rising))[1])
        self.assertNotIn((0, 0, 2, 1, 0), put_traits((), fact, (2, 1), (rising, rising))[1])
        self.assertIn((0, 0, 2, 1, 0), put_traits((), fact, (2, 1), (one, rising))[1])

    def test_told_one(self):
        self.assertEqual(put_traits(RISING, EVEN, (1, 2), (ONE, ONE)), (
            1, ((0, 0, 1, 0, 0), (0, 0, 1, 0, 1), (0, 0, 1, 1, 0), (0, 1, 2, 0, 0), (0, 1, 2, 0, 1), (0, 1, 2, 1, 0)),
            (("things", 0, 0),)))

    def test_errors(self):
        for told in NO_LISTS:
            self.assert_raises(InvalidList, told, put_traits, told, None, None, (None,))
        for told in NO_FACTS:
            self.assert_raises(InvalidFact, told, put_traits, RISING, told, None, (None,))
        for told in NO_NODES:
            self.assert_raises(InvalidNode, told, put_traits, RISING, EVEN, told, (None,))
        for told in no_rows(ONE):
            self.assert_raises(InvalidPaper, told, put_traits, RISING, EVEN, (1, 2), (told,))
            self.assert_raises(InvalidPaper, told, put_traits, RISING, EVEN, (1, 2), (ONE, told, None))
        for many in (0, 1, 3):
            self.assert_raises(InvalidPair, (2, many), put_traits, RISING, EVEN, (1, 2), (ONE,) * many)
            self.assert_raises(InvalidPair, (4, many), put_traits, RISING, EVEN, (2, 4, 1, 3), (ONE,) * many)


if __name__ == "__main__":
    unittest.main()
