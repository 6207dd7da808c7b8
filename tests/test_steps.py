"""wholeorders.steps: simple orders, and the chains of steps that lead up to them."""

import unittest
from itertools import combinations

from tests.helpers import (FAMILY_LISTS, FEW_LISTS, LISTS, NO_INTEGERS, NO_LISTS, NO_NUMBERS, NO_ORDERS, ROAD_LISTS,
                           STAIRS, Case, all_orders, all_simple, left_of, orders_to, simple_to, slow_is_simple,
                           slow_lets, slow_pattern)
from tests.test_families import slow_member
from wholeorders.errors import InvalidList, InvalidNumber, InvalidOrder
from wholeorders.lists import lets
from wholeorders.patterns import shows
from wholeorders.steps import (chain, is_chain, is_lone, one_more, simple_let, simple_orders, smaller_simple, without)

PARALLEL = [("parallel", posture) for posture in (0, 1, 4, 5)]
NO_SIMPLE = NO_ORDERS + ((), (1,), (1, 2), (2, 3, 1), (1, 3, 2, 4), (2, 1, 4, 3), (3, 4, 1, 2), (2, 5, 1, 3, 4),
                         (3, 1, 4, 2, 5), (6, 2, 4, 1, 3, 5))
LONG = (3, 6, 1, 9, 4, 11, 2, 8, 12, 5, 10, 7)
CHAIN = ((2, 4, 1, 3), (2, 4, 6, 1, 3, 5), (2, 4, 6, 8, 1, 3, 5, 7))
NO_CHAINS = (
    None, 3, "", (), [], [(2, 4, 1, 3)], (2, 4, 1, 3), ([2, 4, 1, 3],), ((2, 4, 1),), ((1, 2, 3, 4),), (None,),
    ((2, 5, 3, 1, 4),), ((2, 4, 1, 3), (2, 4, 1, 3)), ((2, 4, 1, 3), (3, 1, 4, 2)),
    ((2, 4, 1, 3), (2, 5, 3, 1, 4), (2, 4, 1, 3)), ((3, 1, 4, 2), (2, 5, 3, 1, 4)), ((2, 4, 1, 3), CHAIN[2]),
    ((2, 4, 1, 3), (2, 4, 1, 3, 5)), ((2, 4, 1, 3), [2, 5, 3, 1, 4]), CHAIN[1:], ((2, 4, 1, 3), (2, 5, 3, 1, True)),
    (CHAIN,), CHAIN + ((),), ((),), ((2, 4, 1, 3), None))


def slow_smaller(order):
    """Return the simple orders of one thing fewer that an order shows, ascending."""
    return sorted(less for less in left_of(order) if slow_is_simple(less))


def slow_chain(order):
    """Return the chain of an order, as the document says it."""
    if len(order) == 4:
        return (order,)
    smaller = slow_smaller(order)
    if not smaller:
        kept = combinations(order, len(order) - 2)
        smaller = sorted({less for less in map(slow_pattern, kept) if slow_is_simple(less)})
    return slow_chain(smaller[0]) + (order,)


class OneThingTest(Case):
    def test_without(self):
        for order in orders_to(5):
            for at in range(len(order)):
                self.assertEqual(without(order, at), slow_pattern(order[:at] + order[at + 1:]))
        self.assertEqual(without((1,), 0), ())
        self.assertEqual(without(LONG, 11), (3, 6, 1, 8, 4, 10, 2, 7, 11, 5, 9))

    def test_one_more(self):
        for n in range(5):
            above = {order: [] for order in all_orders(n)}
            for more in all_orders(n + 1):
                for order in left_of(more):
                    above[order].append(more)
            for order in all_orders(n):
                self.assertEqual(one_more(order), above[order])
        self.assertEqual([one_more(()), one_more((1,))], [[(1,)], [(1, 2), (2, 1)]])
        found = one_more(LONG)
        self.assertEqual(len(found), 12 * 12 + 1)
        self.assertEqual(found, sorted(found))
        self.assertTrue(all(LONG in left_of(more) for more in found))

    def test_errors(self):
        for told in NO_ORDERS:
            self.assert_raises(InvalidOrder, told, without, told, 0)
            self.assert_raises(InvalidOrder, told, without, told, None)
            self.assert_raises(InvalidOrder, told, one_more, told)
            self.assert_raises(InvalidOrder, told, is_lone, told)
        for at in NO_INTEGERS + (-1, -4, 4, 10 ** 20):
            self.assert_raises(InvalidNumber, at, without, (2, 4, 1, 3), at)
        self.assert_raises(InvalidNumber, 0, without, (), 0)


class SimpleTest(Case):
    def test_all_simple_orders(self):
        for n in range(8):
            self.assertEqual(simple_orders(n), all_simple(n))
        self.assertEqual([len(simple_orders(n)) for n in range(8)], [0, 0, 0, 0, 2, 6, 46, 338])

    def test_those_that_are_let(self):
        roads = tuple(forbidden for forbidden, _ in ROAD_LISTS)
        families = tuple(forbidden for forbidden, _ in FAMILY_LISTS)
        for forbidden in LISTS + FEW_LISTS + roads + families:
            for n in range(7):
                self.assertEqual(simple_let(forbidden, n),
                                 [order for order in all_simple(n) if slow_lets(forbidden, order)])
            self.assertEqual(simple_let(forbidden, 7), [order for order in all_simple(7) if lets(forbidden, order)])

    def test_known_ones(self):
        self.assertEqual(simple_let(((1, 2, 3), (4, 3, 2, 1)), 5), [(3, 5, 1, 4, 2), (4, 2, 5, 1, 3)])
        self.assertEqual([len(simple_let(((2, 4, 1, 3),), n)) for n in range(9)], [0, 0, 0, 0, 1, 1, 6, 18, 72])
        self.assertEqual([len(simple_let(((3, 2, 1),), n)) for n in range(4, 11)], [2, 2, 7, 14, 37, 90, 233])
        self.assertEqual([len(simple_let(STAIRS, n)) for n in range(4, 10)], [2] * 6)
        self.assertEqual(simple_let(STAIRS, 10), [(2, 4, 1, 6, 3, 8, 5, 10, 7, 9), (3, 1, 5, 2, 7, 4, 9, 6, 10, 8)])
        self.assertEqual([simple_let(((1,),), n) for n in range(11)], [[]] * 11)

    def test_at_the_bound(self):
        forbidden = ((1, 2, 3, 4), (4, 3, 2, 1), (3, 4, 2, 5, 1))
        self.assertEqual([len(simple_let(forbidden, n)) for n in range(4, 11)], [2, 6, 44, 145, 250, 114, 0])

    def test_errors(self):
        for n in NO_NUMBERS:
            self.assert_raises(InvalidNumber, n, simple_orders, n)
            self.assert_raises(InvalidNumber, n, simple_let, (), n)
        for told in NO_LISTS:
            self.assert_raises(InvalidList, told, simple_let, told, 5)
            self.assert_raises(InvalidList, told, simple_let, told, -1)


class StepsTest(Case):
    def test_smaller_simple(self):
        for order in simple_to(7):
            self.assertEqual(smaller_simple(order), slow_smaller(order))
        self.assertEqual(smaller_simple((2, 4, 1, 3)), [])
        self.assertEqual(smaller_simple((2, 5, 3, 1, 4)), [(2, 4, 1, 3)])
        self.assertTrue(slow_is_simple(LONG))
        self.assertEqual(smaller_simple(LONG), slow_smaller(LONG))

    def test_lone_orders(self):
        for n in range(8):
            lone = sorted({slow_member(kind, n // 2) for kind in PARALLEL}) if n in (4, 6) else []
            self.assertEqual([order for order in all_orders(n) if is_lone(order)], lone)
        for kind in PARALLEL:
            for n in range(2, 7):
                self.assertIs(is_lone(slow_member(kind, n)), True)
        self.assertEqual([is_lone(told) for told in ((), (1,), (2, 1), (2, 3, 1), (1, 2, 3, 4), LONG)], [False] * 6)

    def test_chains_lead_down_to_four_things(self):
        for order in simple_to(7):
            found = chain(order)
            self.assertEqual(found, slow_chain(order))
            self.assertIs(is_chain(found), True)
            self.assertEqual(len(found[0]), 4)
            self.assertEqual(found[-1], order)
            for ahead, behind in zip(found, found[1:]):
                self.assertEqual(len(behind) - len(ahead), 2 if is_lone(behind) else 1)
                self.assertTrue(shows(behind, ahead))

    def test_orders_of_twelve_things(self):
        found = chain(LONG)
        self.assertEqual([len(order) for order in found], list(range(4, 13)))
        self.assertEqual(found, slow_chain(LONG))
        self.assertIs(is_chain(found), True)
        for kind in PARALLEL:
            found = chain(slow_member(kind, 6))
            self.assertEqual(found, tuple(slow_member(kind, n) for n in range(2, 7)))
            self.assertIs(is_chain(found), True)
            self.assertIs(is_chain(found[:3] + found[4:]), False)

    def test_told_ones(self):
        self.assertEqual(chain((2, 4, 1, 3)), ((2, 4, 1, 3),))
        self.assertEqual(chain((2, 7, 3, 6, 4, 1, 5))[-2:], ((2, 6, 3, 5, 1, 4), (2, 7, 3, 6, 4, 1, 5)))
        self.assertEqual(chain((2, 4, 6, 8, 1, 3, 5, 7)), CHAIN)

    def test_is_chain(self):
        for told in (CHAIN, CHAIN[:1], ((3, 1, 4, 2),), ((2, 4, 1, 3), (2, 5, 3, 1, 4)),
                     ((2, 4, 1, 3), (2, 4, 1, 6, 3, 5)), ((3, 1, 4, 2), (2, 4, 6, 1, 3, 5))):
            shown = all(shows(behind, ahead) for ahead, behind in zip(told, told[1:]))
            self.assertIs(is_chain(told), shown)
        self.assertIs(is_chain(CHAIN), True)
        self.assertIs(is_chain(((2, 4, 1, 3), (2, 4, 1, 6, 3, 5))), True)
        for told in NO_CHAINS:
            self.assertIs(is_chain(told), False, told)

    def test_each_row_of_simple_orders_of_few_things(self):
        for ahead in all_simple(4):
            for behind in simple_to(6):
                self.assertIs(is_chain((ahead, behind)), len(behind) > 4 and shows(behind, ahead))

    def test_errors(self):
        for told in NO_SIMPLE:
            self.assert_raises(InvalidOrder, told, smaller_simple, told)
            self.assert_raises(InvalidOrder, told, chain, told)


if __name__ == "__main__":
    unittest.main()
