"""wholeorders.lists: lists of patterns and the orders that they let."""

import unittest

from tests.helpers import LISTS, NO_LISTS, NO_NUMBERS, NO_ORDERS, Case, all_orders, orders_to, slow_lets
from wholeorders import lists
from wholeorders.blocks import skew_summed, summed
from wholeorders.errors import InvalidList, InvalidNumber, InvalidOrder
from wholeorders.lists import (inverse_list, is_finite, is_list, is_skew_summed, is_summed, joined, least, let_of, lets,
                               lies_within, met, mirrored_list, parting, same, turned_list)
from wholeorders.patterns import inverse, mirrored, turned

SMALL = ((), ((1,),), ((1, 2),), ((2, 1),), ((2, 3, 1),), ((2, 3, 1), (3, 1, 2)), ((1, 2, 3), (3, 2, 1)),
         ((1, 3, 2), (2, 1, 3), (2, 3, 1), (3, 1, 2)), ((1, 2, 3), (1, 2)), ((3, 2, 1), (3, 2, 1)))
LARGE = ((2, 4, 1, 5, 3), (5, 4, 3, 2, 1), (1, 2, 3, 4, 5), (3, 5, 1, 4, 2), (1, 3, 5, 2, 4), (5, 1, 2, 3, 4))


def lot(forbidden, n):
    """Return the set of the orders of at most n things that a list lets."""
    return {order for order in orders_to(n) if slow_lets(forbidden, order)}


def least_by_lot(let, n):
    """Return the least list, by length and then as tuples, that lets of at most n things just the let orders."""
    kept = []
    for order in orders_to(n)[1:]:
        if order not in let and slow_lets(kept, order):
            kept.append(order)
    return tuple(kept)


class ListsTest(Case):
    def test_is_list(self):
        for told in LISTS + (LARGE, ((1, 2), (1, 2))):
            self.assertIs(is_list(told), True)
        for told in NO_LISTS:
            self.assertIs(is_list(told), False, told)

    def test_lets(self):
        for forbidden in LISTS:
            for order in orders_to(5):
                self.assertIs(lets(forbidden, order), slow_lets(forbidden, order))
        self.assertIs(lets(LARGE, (6, 5, 12, 11, 10, 4, 3, 2, 9, 8, 7, 1)), False)
        self.assertIs(lets(LARGE, (3, 2, 1, 6, 5, 4, 9, 8, 7, 12, 11, 10)), True)
        self.assertIs(lets((), ()), True)
        self.assertIs(lets(((1,),), ()), True)

    def test_least(self):
        self.assertEqual(least(((2, 3, 1), (1, 3, 4, 2), (2, 3, 1))), ((2, 3, 1),))
        self.assertEqual(least(()), ())
        self.assertEqual(least(((1, 2), (2, 1), (1,))), ((1,),))
        self.assertEqual(least(LARGE), tuple(sorted(LARGE)))
        for forbidden in LISTS:
            found = least(forbidden)
            self.assertEqual(found, least_by_lot(lot(forbidden, 4), 4))
            self.assertEqual(lot(found, 5), lot(forbidden, 5))
            self.assertEqual(found, least(found))
            self.assertEqual(found, least(forbidden[::-1] + forbidden))

    def test_two_lists_have_one_lot_exactly_if_their_least_lists_are_the_same(self):
        lots = {forbidden: lot(forbidden, 5) for forbidden in LISTS}
        for one in LISTS:
            for other in LISTS:
                alike = lots[one] == lots[other]
                self.assertIs(same(one, other), alike)
                self.assertEqual(least(one) == least(other), alike)
                self.assertIs(lies_within(one, other), lots[one] <= lots[other])
                apart = sorted(lots[one] ^ lots[other], key=lambda order: (len(order), order))
                self.assertEqual(parting(one, other), apart[0] if apart else None)

    def test_met_and_joined(self):
        for one in SMALL:
            for other in SMALL:
                self.assertEqual(met(one, other), least(one + other))
                self.assertEqual(lot(met(one, other), 5), lot(one, 5) & lot(other, 5))
                found = joined(one, other)
                self.assertEqual(found, least(found))
                self.assertEqual(lot(found, 5), lot(one, 5) | lot(other, 5))

    def test_joined_at_its_bounds(self):
        one = ((1, 2, 3), (1, 3, 2), (2, 1, 3), (2, 3, 1))
        other = ((3, 2, 1), (3, 1, 2), (2, 3, 1), (1, 3, 2))
        self.assertEqual(joined(one, other), least_by_lot(lot(one, 6) | lot(other, 6), 6))
        one, other = ((1, 2, 3),), ((3, 2, 1),)
        self.assertEqual(joined(one, other), least_by_lot(lot(one, 6) | lot(other, 6), 6))
        self.assertEqual(joined(((2, 1, 3),), ((2, 1, 3),)), ((2, 1, 3),))
        self.assertEqual([joined((), ()), joined((), ((1,),)), joined(((1,),), ((1,),))], [(), (), ((1,),)])

    def test_let_of(self):
        for forbidden in LISTS:
            for n in range(6):
                self.assertEqual(let_of(forbidden, n), [order for order in all_orders(n) if slow_lets(forbidden, order)])
        self.assertEqual(let_of((), 0), [()])
        self.assertEqual(let_of(((1,),), 0), [()])
        self.assertEqual(let_of(((1,),), 1), [])
        self.assertEqual(let_of((), 7), all_orders(7))
        self.assertEqual(let_of(LARGE, 7), [order for order in all_orders(7) if slow_lets(LARGE, order)])

    def test_is_finite(self):
        for forbidden, ends in ((((1,),), True), (((1, 2), (2, 1)), True), (((1, 2, 3), (3, 2, 1)), True),
                                (((1, 2),), False), (((2, 1),), False), ((), False), (((2, 3, 1), (1, 3, 2)), False),
                                (((5, 4, 3, 2, 1), (1, 3, 2), (1, 2, 3, 4, 5)), True), (LARGE, True),
                                (((1, 2), (2, 3, 1)), False)):
            self.assertIs(is_finite(forbidden), ends)

    def test_ends_at_all(self):
        """Else rising ones, or falling ones, of any number of things are let; of patterns of 3 none of 5 things is."""
        for forbidden in LISTS:
            endless = any(slow_lets(forbidden, order) for order in (tuple(range(1, 9)), tuple(range(8, 0, -1))))
            self.assertIs(is_finite(forbidden), not endless)
            if is_finite(forbidden) and max(len(pattern) for pattern in forbidden) <= 3:
                self.assertEqual(let_of(forbidden, 5), [])

    def test_turned_mirrored_and_inverse_lists(self):
        for function, turn in ((turned_list, turned), (mirrored_list, mirrored), (inverse_list, inverse)):
            for forbidden in LISTS + (LARGE,):
                found = function(forbidden)
                self.assertEqual(found, least(found))
                self.assertEqual(function(found), least(forbidden))
            for forbidden in LISTS:
                self.assertEqual(lot(function(forbidden), 5), {turn(order) for order in lot(forbidden, 5)})
        self.assertEqual(turned_list(((2, 3, 1), (2, 3, 1), (1, 2, 3, 4))), ((1, 3, 2), (4, 3, 2, 1)))

    def test_sums_of_what_is_let(self):
        for forbidden in LISTS:
            for function, put in ((is_summed, summed), (is_skew_summed, skew_summed)):
                few = [order for order in orders_to(3) if slow_lets(forbidden, order)]
                sums = [put(one, other) for one in few for other in few]
                self.assertIs(function(forbidden), all(slow_lets(forbidden, order) for order in sums))

    def test_what_is_returned_may_be_passed_on(self):
        found = joined(((1, 2, 3),), ((3, 2, 1),))
        self.assertEqual(len(found), 36)
        self.assertIs(lies_within(((1, 2, 3),), found), True)
        self.assertIs(lets(found, tuple(range(1, 121))), True)
        self.assertEqual(met(found, ((1, 2, 3),)), ((1, 2, 3),))


class ErrorsTest(Case):
    def test_of_one_list(self):
        for name in ("least", "is_finite", "turned_list", "mirrored_list", "inverse_list", "is_summed",
                     "is_skew_summed"):
            for told in NO_LISTS:
                self.assert_raises(InvalidList, told, getattr(lists, name), told)

    def test_of_two_lists(self):
        for name in ("lies_within", "same", "parting", "met", "joined"):
            function = getattr(lists, name)
            for told in NO_LISTS:
                self.assert_raises(InvalidList, told, function, told, ((1, 2),))
                self.assert_raises(InvalidList, told, function, ((1, 2),), told)
                self.assert_raises(InvalidList, told, function, told, (7,))
                self.assert_raises(InvalidList, told, function, other=(7,), one=told)

    def test_of_a_list_and_more(self):
        for told in NO_LISTS:
            self.assert_raises(InvalidList, told, lets, told, (1,))
            self.assert_raises(InvalidList, told, lets, told, (3,))
            self.assert_raises(InvalidList, told, let_of, told, 2)
            self.assert_raises(InvalidList, told, let_of, told, -1)
        for told in NO_ORDERS:
            self.assert_raises(InvalidOrder, told, lets, ((1, 2),), told)
        for n in NO_NUMBERS:
            self.assert_raises(InvalidNumber, n, let_of, ((1, 2),), n)


if __name__ == "__main__":
    unittest.main()
