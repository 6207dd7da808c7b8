"""wholeorders.treecounts: how many orders there are of each number of things, and which is the i-th by shapes."""

import unittest
from itertools import product

from tests.helpers import FAMILY_LISTS, FEW_LISTS, NO_INTEGERS, NO_LISTS, NO_NUMBERS, NO_ORDERS, NOTHING, RISING, ROAD_LISTS
from tests.helpers import STAIRS, TWO, Case
from tests.slow_facts import EIGHT_LEAVES, EVEN, NO_FACTS, SIX_DEEP, slow_truth
from tests.slow_tables import CROSSED, ELEVEN, TABLE_FACTS, TABLE_LISTS, let_to, place_in_shapes, slow_split
from tests.test_ranks import NO_TAPES
from wholeorders.blocks import put_together
from wholeorders.counts import counts
from wholeorders.errors import (InvalidFact, InvalidList, InvalidNumber, InvalidOrder, InvalidPair, InvalidTape, NotFew,
                                NotLet, TooMany)
from wholeorders.facts import is_true, measure
from wholeorders.lists import lets
from wholeorders.ranks import drawn
from wholeorders.roads import fate
from wholeorders.treecounts import shape_drawn, shape_next, shape_nth, shape_place, tree_counts

FALL = ((2, 3, 1),)
MANY = ((1, 2, 3, 4, 5), (5, 4, 3, 2, 1))
FACTS = (None,) + TABLE_FACTS + (EIGHT_LEAVES, SIX_DEEP, ("shows", (2, 1, 3), (0,)), ("rest", "tops", 2, 0))


def in_sequence(forbidden, fact, n):
    """Return the orders of n things that are meant, in the sequence of shapes."""
    orders = [order for order in let_to(forbidden, n) if len(order) == n]
    return sorted([order for order in orders if fact is None or slow_truth(fact, order)], key=place_in_shapes)


class CountsTest(Case):
    def test_all_orders_of_few_things(self):
        for forbidden in FEW_LISTS[:12] + TABLE_LISTS:
            for fact in FACTS if forbidden in TABLE_LISTS else FACTS[:3]:
                found = [len(in_sequence(forbidden, fact, n)) for n in range(6)]
                self.assertEqual(tree_counts(forbidden, fact, 5), found)
                self.assertEqual(tree_counts(forbidden, fact, 3), found[:4])

    def test_words_count_as_many(self):
        for forbidden in (TWO, ((2, 3, 1), (1, 3, 2)), ((1, 2, 3), (3, 2, 1)), RISING, NOTHING, ((1, 2), (2, 1)),
                          ((2, 3, 1), (1, 2, 3, 4)), ((2, 3, 1), (4, 3, 1, 2))):
            self.assertEqual(tree_counts(forbidden, None, 40), counts(forbidden, 40))

    def test_what_is_known(self):
        ball = [1, 1]
        for n in range(1, 40):
            ball.append(ball[-1] * (4 * n + 2) // (n + 2))
        self.assertEqual(tree_counts(FALL, None, 40), ball)
        self.assertEqual(tree_counts(CROSSED, None, 8), [1, 1, 2, 6, 22, 90, 394, 1806, 8558])
        self.assertEqual(tree_counts(RISING, None, 40), [1] * 41)
        self.assertEqual(tree_counts(NOTHING, None, 40), [1] + [0] * 40)
        self.assertEqual(tree_counts(((1, 2), (2, 1)), None, 40), [1, 1] + [0] * 39)
        self.assertEqual(tree_counts(RISING, EVEN, 30), [1, 0] * 15 + [1])
        self.assertEqual(tree_counts(FALL, ("least", "parts", 2), 4), [0, 0, 1, 3, 9])

    def test_a_fact_and_its_opposite_make_all(self):
        for forbidden in (FALL, CROSSED, STAIRS + ((2, 4, 1, 5, 3),), ((3, 2, 1), (3, 1, 2, 4))):
            both = tree_counts(forbidden, None, 30)
            for fact in (EIGHT_LEAVES, ("rest", "turns", 9, 0), ("shows", (2, 1, 4, 3), (-1, 1))):
                one = tree_counts(forbidden, fact, 30)
                other = tree_counts(forbidden, ("not", fact), 30)
                self.assertEqual([few + more for few, more in zip(one, other)], both)

    def test_all_rests_together_make_all(self):
        for modulus in (1, 3):
            for name in ("things", "turns", "drops", "tops", "parts"):
                rows = [tree_counts(CROSSED, ("rest", name, modulus, rest), 12) for rest in range(modulus)]
                self.assertEqual([sum(row) for row in zip(*rows)], tree_counts(CROSSED, None, 12))

    def test_no_thing(self):
        self.assertEqual(tree_counts(FALL, None, 0), [1])
        self.assertEqual(tree_counts(NOTHING, None, 0), [1])
        self.assertEqual(tree_counts(FALL, EVEN, 0), [1])
        self.assertEqual(tree_counts(FALL, ("least", "things", 1), 0), [0])


class SequenceTest(Case):
    def test_there_and_back(self):
        for forbidden in TABLE_LISTS[2:] + (STAIRS + ((2, 4, 1, 5, 3),),):
            for fact in FACTS[:5]:
                for n in range(6):
                    orders = in_sequence(forbidden, fact, n)
                    for i in [at for at in range(len(orders)) if at < 2 or at % 9 == 0]:
                        self.assertEqual(shape_nth(forbidden, fact, n, i), orders[i])
                        self.assertEqual(shape_place(forbidden, fact, orders[i]), i)
                        after = orders[i + 1] if i + 1 < len(orders) else None
                        self.assertEqual(shape_next(forbidden, fact, orders[i]), after)

    def test_simple_nodes_in_their_sequence(self):
        for n in (4, 6):
            orders = in_sequence(ELEVEN, None, n)
            self.assertEqual([shape_nth(ELEVEN, None, n, i) for i in range(len(orders))], orders)
        orders = in_sequence(((3, 2, 1), (3, 1, 2, 4)), None, 6)
        for i in range(0, len(orders), 3):
            self.assertEqual(shape_nth(((3, 2, 1), (3, 1, 2, 4)), None, 6, i), orders[i])
            self.assertEqual(shape_place(((3, 2, 1), (3, 1, 2, 4)), None, orders[i]), i)

    def test_simple_orders_within_simple_ones(self):
        forbidden = ((2, 4, 1, 3), (4, 1, 3, 5, 2), (4, 1, 5, 2, 6, 3), (5, 3, 1, 6, 4, 2))
        found = [len([order for order in let_to(forbidden, 6) if len(order) == n]) for n in range(7)]
        self.assertEqual(tree_counts(forbidden, None, 7), found + [2498])
        for places in ((0,), (3,), (0, 2), (0, 1, 2, 3)):
            order = put_together((3, 1, 4, 2), tuple((3, 1, 4, 2) if at in places else (1,) for at in range(4)))
            for fact in (None, ("shows", (3, 1, 4, 2), (0, 1, 2)), ("rest", "turns", 3, measure(order, "turns") % 3)):
                i = shape_place(forbidden, fact, order)
                self.assertEqual(shape_nth(forbidden, fact, len(order), i), order)

    def test_at_the_bounds(self):
        told = ((FALL, None, 40), (CROSSED, None, 40), (CROSSED, ("both", ("rest", "turns", 2, 0), EVEN), 30), (RISING, EVEN, 30),
                (((3, 2, 1), (3, 1, 2, 4)), ("least", "tops", 4), 30))
        for forbidden, fact, n in told:
            many = tree_counts(forbidden, fact, n)[n]
            for i in sorted({0, many // 3, many - 1}):
                order = shape_nth(forbidden, fact, n, i)
                self.assertTrue(lets(forbidden, order) and (fact is None or is_true(fact, order)))
                self.assertEqual(shape_place(forbidden, fact, order), i)
                after = shape_next(forbidden, fact, order)
                if i + 1 == many:
                    self.assertIsNone(after)
                else:
                    self.assertEqual(shape_place(forbidden, fact, after), i + 1)
            self.assert_raises(InvalidNumber, many, shape_nth, forbidden, fact, n, many)

    def test_nodes_of_eight_things(self):
        forbidden = ((1, 2, 3, 4, 5), (3, 2, 1))
        many = tree_counts(forbidden, None, 8)
        self.assertEqual(many[:6], [len(in_sequence(forbidden, None, n)) for n in range(6)])
        order = shape_nth(forbidden, None, 8, many[8] - 1)
        self.assertEqual(len(slow_split(order)[1]), 8)
        self.assertIsNone(shape_next(forbidden, None, order))

    def test_no_thing(self):
        self.assertEqual(shape_nth(FALL, None, 0, 0), ())
        self.assertEqual(shape_nth(NOTHING, EVEN, 0, 0), ())
        self.assertEqual(shape_place(FALL, None, ()), 0)
        self.assertIsNone(shape_next(FALL, None, ()))
        self.assertEqual(shape_drawn(FALL, None, 0, ()), ((), 0))
        self.assert_raises(InvalidNumber, 0, shape_nth, FALL, ("least", "things", 1), 0, 0)
        self.assert_raises(NotLet, (), shape_place, FALL, ("least", "things", 1), ())
        self.assert_raises(InvalidPair, (0, 0), shape_drawn, FALL, ("least", "things", 1), 0, ())

    def test_told_ones(self):
        self.assertEqual([shape_nth(FALL, None, 3, i) for i in range(5)],
                         [(1, 2, 3), (1, 3, 2), (2, 1, 3), (3, 1, 2), (3, 2, 1)])
        self.assertEqual([shape_place(FALL, None, (3, 2, 1)), shape_next(FALL, None, (2, 1, 3))], [4, (3, 1, 2)])


class DrawnTest(Case):
    def test_all_tapes(self):
        for forbidden, fact, n in ((FALL, None, 3), (TWO, None, 3), (TWO, EVEN, 4), (FALL, ("least", "tops", 2), 3)):
            orders = in_sequence(forbidden, fact, n)
            size = (len(orders) - 1).bit_length()
            for many in range(2 * size + 2):
                for tape in product((0, 1), repeat=many):
                    found = None
                    for start in range(0, many - size + 1, size):
                        i = int("".join(map(str, tape[start:start + size])), 2)
                        if found is None and i < len(orders):
                            found = orders[i], start + size
                    self.assertEqual(shape_drawn(forbidden, fact, n, tape), found)

    def test_one_alone_needs_no_tape(self):
        self.assertEqual(shape_drawn(RISING, None, 7, ()), (tuple(range(1, 8)), 0))
        self.assertEqual(shape_drawn(RISING, None, 7, (1, 0)), (tuple(range(1, 8)), 0))
        self.assertEqual(shape_drawn(NOTHING, None, 0, (1, 1)), drawn(NOTHING, 0, (1, 1)))

    def test_told_ones(self):
        self.assertEqual(shape_drawn(FALL, None, 3, (1, 1, 0, 0, 1, 0)), ((2, 1, 3), 6))
        self.assertIsNone(shape_drawn(FALL, None, 3, (1, 1, 0, 0, 1)))
        self.assertIsNone(shape_drawn(FALL, None, 3, ()))


class ErrorsTest(Case):
    def test_lists_and_facts(self):
        for function, more in ((tree_counts, (-1,)), (shape_nth, (-1, -1)), (shape_place, (None,)), (shape_next, (None,)),
                               (shape_drawn, (-1, None))):
            for told in NO_LISTS:
                self.assert_raises(InvalidList, told, function, told, 3, *more)
            for told in NO_FACTS:
                if told is not None:
                    self.assert_raises(InvalidFact, told, function, STAIRS, told, *more)

    def test_numbers(self):
        for told in NO_NUMBERS:
            self.assert_raises(InvalidNumber, told, tree_counts, STAIRS, EVEN, told)
            self.assert_raises(InvalidNumber, told, shape_nth, STAIRS, EVEN, told, None)
            self.assert_raises(InvalidNumber, told, shape_nth, STAIRS, EVEN, 3, told)
            self.assert_raises(InvalidNumber, told, shape_drawn, STAIRS, EVEN, told, None)
        for n, many in enumerate((1, 1, 2, 5, 14)):
            self.assert_raises(InvalidNumber, many, shape_nth, FALL, None, n, many)
            self.assert_raises(InvalidNumber, many + 9, shape_nth, FALL, None, n, many + 9)
        self.assert_raises(InvalidNumber, 0, shape_nth, FALL, EVEN, 3, 0)
        self.assert_raises(InvalidNumber, 0, shape_nth, NOTHING, None, 3, 0)

    def test_orders_and_tapes(self):
        for told in NO_ORDERS:
            self.assert_raises(InvalidOrder, told, shape_place, STAIRS, EVEN, told)
            self.assert_raises(InvalidOrder, told, shape_next, STAIRS, None, told)
        for told in NO_TAPES:
            self.assert_raises(InvalidTape, told, shape_drawn, STAIRS, EVEN, 3, told)
            self.assert_raises(InvalidTape, told, shape_drawn, NOTHING, None, 3, told)
        for function in (shape_place, shape_next):
            for told in ((2, 3, 1), (1, 3, 4, 2), (2, 4, 1, 3)):
                self.assert_raises(NotLet, told, function, FALL, None, told)
            self.assert_raises(NotLet, (2, 1, 3), function, FALL, EVEN, (2, 1, 3))
            self.assert_raises(NotLet, (1,), function, NOTHING, None, (1,))
        self.assert_raises(InvalidPair, (3, 0), shape_drawn, NOTHING, None, 3, (1,))
        self.assert_raises(InvalidPair, (3, 0), shape_drawn, FALL, EVEN, 3, ())

    def test_lists_that_have_not_few(self):
        for forbidden, _ in FAMILY_LISTS[:4] + ROAD_LISTS[:2]:
            paper = fate(forbidden)
            self.assert_raises(NotFew, paper, tree_counts, forbidden, None, 3)
            self.assert_raises(NotFew, paper, shape_nth, forbidden, None, 3, 10 ** 9)
            self.assert_raises(NotFew, paper, shape_place, forbidden, ("least", "things", 9), (1,))
            self.assert_raises(NotFew, paper, shape_next, forbidden, None, (1,))
            self.assert_raises(NotFew, paper, shape_drawn, forbidden, ("least", "things", 9), 3, ())
        self.assert_raises(TooMany, 300, tree_counts, MANY, None, 0)
        self.assert_raises(TooMany, 300, shape_nth, MANY, EVEN, 0, 5)
        self.assert_raises(TooMany, 300, shape_place, MANY, None, (1, 2, 3, 4, 5))
        self.assertEqual(NO_INTEGERS[0], None)


if __name__ == "__main__":
    unittest.main()
