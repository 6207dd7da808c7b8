"""wholeorders.closed: lots that are closed, the closures of others, and what opens these."""

import functools
import unittest
from itertools import product

from tests.helpers import (FAMILY_LISTS, FEW_LISTS, LISTS, NO_LISTS, NO_NUMBERS, NOTHING, RISING, ROAD_LISTS, STAIRS,
                           Case, all_orders, simple_to, slow_blocks, slow_is_simple, slow_lets, slow_pattern)
from wholeorders.blocks import put_together
from wholeorders.closed import closure, is_closed, opened
from wholeorders.errors import InvalidList, InvalidNumber, NotFew, TooMany
from wholeorders.lists import least, let_of, lets, lies_within
from wholeorders.roads import fate, simples

ELEVEN = ((1, 2, 3), (4, 3, 2, 1))
MANY = ((1, 2, 3, 4, 5), (5, 4, 3, 2, 1))
CLOSED = (
    (), NOTHING, ((1, 2),), RISING, ((1, 2), (2, 1)), ((2, 4, 1, 3),), ((2, 4, 1, 3), (3, 1, 4, 2)),
    ((3, 1, 4, 2), (2, 5, 3, 1, 4), (3, 1, 4, 2, 5, 6), (3, 1, 4, 2)), ((2, 5, 3, 1, 4), (4, 1, 3, 5, 2)),
    ((1, 2), (2, 3, 1)), ((2, 4, 6, 1, 3, 5),))
OPEN = (
    ((1, 2, 3),), ((2, 3, 1),), ELEVEN, STAIRS, ((2, 4, 1, 3), (1, 2, 3)), ((1, 3, 2), (2, 3, 1)),
    ((2, 1, 4, 3), (2, 4, 1, 3)), ((2, 4, 1, 5, 3), (3, 4, 1, 2)), ((2, 4, 1, 3), (2, 1, 3, 4, 5)),
    ((3, 5, 1, 4, 2), (1, 2, 3, 5, 4)), ((3, 1, 4, 2), (1, 2, 5, 4, 3), (2, 1, 3, 5, 4)))


def compositions(n, many):
    """Return all tuples of so many numbers from 1 on whose sum is n."""
    if many == 1:
        return [(n,)]
    return [(first,) + rest for first in range(1, n - many + 2) for rest in compositions(n - first, many - 1)]


def slow_opened(forbidden, most):
    """Return the first (order, orders) of let ones that put together are not let, of at most so many things."""
    let = {n: [order for order in all_orders(n) if slow_lets(forbidden, order)] for n in range(most + 1)}
    for n in range(1, most + 1):
        found = []
        for many in range(1, n + 1):
            for order in let[many]:
                for sizes in compositions(n, many):
                    for orders in product(*[let[size] for size in sizes]):
                        if put_together(order, orders) not in let[n]:
                            found.append((order, orders))
        if found:
            return min(found)
    return None


def pieces(order):
    """Return the ways to take an order apart into blocks, more than one and fewer than it has things."""
    blocks = slow_blocks(order)
    rows = [()]
    found = []
    while rows:
        row = rows.pop()
        start = row[-1][1] if row else 0
        if start == len(order) and 1 < len(row) < len(order):
            head = slow_pattern([order[low] for low, _ in row])
            found.append((head, [slow_pattern(order[low:high]) for low, high in row]))
        rows += [row + (block,) for block in blocks if block[0] == start]
    return found


def in_closure(forbidden):
    """Return a function that tells whether an order comes of let ones by putting together again and again."""
    @functools.lru_cache(maxsize=None)
    def comes(order):
        if slow_lets(forbidden, order):
            return True
        return any(comes(head) and all(comes(inner) for inner in orders) for head, orders in pieces(order))
    return comes


class ClosedTest(Case):
    def test_is_closed(self):
        for forbidden in CLOSED:
            self.assertIs(is_closed(forbidden), True)
            self.assertIsNone(opened(forbidden))
        for forbidden in OPEN:
            self.assertIs(is_closed(forbidden), False)
        for forbidden in CLOSED + OPEN + LISTS + FEW_LISTS:
            right = all(len(pattern) < 3 or slow_is_simple(pattern) for pattern in least(forbidden))
            self.assertIs(is_closed(forbidden), right)

    def test_a_lot_is_told_closed_exactly_if_it_is(self):
        for forbidden in OPEN + CLOSED[1:] + LISTS[1:]:
            found = slow_opened(forbidden, 5)
            self.assertEqual(opened(forbidden), found)
            self.assertIs(is_closed(forbidden), found is None)

    def test_what_opens_is_let_but_not_put_together(self):
        for forbidden in OPEN + FEW_LISTS + tuple(told[0] for told in FAMILY_LISTS + ROAD_LISTS):
            told = opened(forbidden)
            self.assertIs(told is None, is_closed(forbidden))
            if told is not None:
                order, orders = told
                self.assertTrue(all(lets(forbidden, inner) for inner in (order,) + orders))
                self.assertFalse(lets(forbidden, put_together(order, orders)))

    def test_told_ones(self):
        self.assertEqual(opened(((2, 3, 1),)), ((2, 1), ((1, 2), (1,))))
        self.assertEqual(opened(((1, 2, 3),)), ((1, 2), ((1,), (1, 2))))
        self.assertEqual(opened(((2, 4, 1, 3), (1, 3, 2, 4))), ((1, 2), ((1,), (2, 1, 3))))
        self.assertEqual(opened(((2, 4, 1, 3, 5), (2, 1, 4, 3))), ((1, 2), ((2, 1), (2, 1))))
        self.assertEqual(opened(((3, 5, 1, 4, 2), (2, 5, 4, 1, 3))), ((2, 4, 1, 3), ((1,), (2, 1), (1,), (1,))))
        self.assertEqual([opened(()), opened(NOTHING), is_closed(()), is_closed(NOTHING)], [None, None, True, True])

    def test_large_patterns(self):
        rising = tuple(range(1, 13))
        self.assertEqual(opened((rising,)), ((1, 2), ((1,), rising[:11])))
        self.assertEqual(opened((rising[::-1],)), ((2, 1), ((1,), rising[:11][::-1])))

    def test_errors(self):
        for told in NO_LISTS:
            for function in (is_closed, closure, opened):
                self.assert_raises(InvalidList, told, function, told)
            self.assert_raises(InvalidList, told, closure, told, most=-1)


class ClosureTest(Case):
    def test_the_least_closed_lot_about_the_list(self):
        for forbidden in FEW_LISTS:
            found = closure(forbidden)
            comes = in_closure(forbidden)
            self.assertEqual(least(found), found)
            self.assertIs(is_closed(found), True)
            self.assertTrue(lies_within(forbidden, found))
            for n in range(1, 7):
                self.assertEqual(let_of(found, n), [order for order in all_orders(n) if comes(order)])

    def test_it_lets_the_same_simple_orders(self):
        for forbidden in FEW_LISTS[:-1]:
            found = closure(forbidden)
            if slow_lets(forbidden, (1, 2)) and slow_lets(forbidden, (2, 1)):
                self.assertEqual(fate(found), fate(forbidden))
            self.assertEqual(simples(found), simples(forbidden))
            self.assertEqual(closure(found), found)

    def test_all_simple_orders_that_are_not_let_and_show_no_other_such(self):
        for forbidden in FEW_LISTS:
            if slow_lets(forbidden, (1, 2)) and slow_lets(forbidden, (2, 1)):
                barred = []
                for order in simple_to(7):
                    if not lets(forbidden, order) and lets(tuple(barred), order):
                        barred.append(order)
                found = closure(forbidden)
                self.assertEqual([order for order in found if len(order) <= 7], barred)
                self.assertLessEqual(max(map(len, found)), fate(forbidden)[2] + 1)

    def test_told_ones(self):
        self.assertEqual([closure(NOTHING), closure(RISING), closure(((1, 2),))], [NOTHING, RISING, ((1, 2),)])
        self.assertEqual(closure(((2, 1), (1, 2))), ((1, 2), (2, 1)))
        self.assertEqual(closure(((2, 3, 1),)), ((2, 4, 1, 3), (3, 1, 4, 2)))
        self.assertEqual(closure(((1, 2), (3, 2, 1))), ((1, 2),))
        self.assertEqual(closure(((3, 2, 1), (3, 1, 2, 4))), closure(((3, 1, 2, 4), (3, 2, 1), (4, 3, 2, 1))))
        five = [order for order in simple_to(5) if len(order) == 5 and order != (3, 1, 5, 2, 4)]
        found = closure(STAIRS + ((2, 4, 1, 5, 3),))
        self.assertEqual([order for order in found if len(order) == 5], five)

    def test_most(self):
        self.assertEqual(closure(ELEVEN, most=11), closure(ELEVEN))
        self.assert_raises(TooMany, 10, closure, ELEVEN, most=10)
        self.assert_raises(TooMany, 0, closure, ELEVEN, most=0)
        self.assert_raises(TooMany, 300, closure, MANY)
        for most in NO_NUMBERS:
            self.assert_raises(InvalidNumber, most, closure, ELEVEN, most=most)
            self.assert_raises(InvalidNumber, most, closure, (), most=most)
        with self.assertRaises(TypeError):
            closure(ELEVEN, 300)

    def test_lists_of_which_not_few_are_let(self):
        for forbidden, kind in FAMILY_LISTS:
            self.assert_raises(NotFew, ("family", kind), closure, forbidden)
        for forbidden, (seed, way) in ROAD_LISTS:
            self.assert_raises(NotFew, ("pins", seed, way), closure, forbidden, most=0)


if __name__ == "__main__":
    unittest.main()
