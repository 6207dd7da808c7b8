"""wholeorders.facts: hooked patterns, measures, and what is true of an order."""

import unittest
from itertools import combinations

from tests.helpers import NO_ORDERS, Case, all_orders, orders_to
from tests.slow_facts import (EIGHT_LEAVES, EVEN, FACTS, MEASURES, NO_FACTS, NO_HOOKED, NO_MEASURES, SIX_DEEP,
                              slow_leaves, slow_measure, slow_meetings, slow_truth)
from wholeorders.errors import InvalidFact, InvalidOrder
from wholeorders.facts import hooked_of, is_fact, is_hooked, is_true, measure, meeting_places, meets
from wholeorders.patterns import places, shows

LONG = ((3, 1, 4, 7, 5, 9, 2, 6, 8), (12, 1, 11, 2, 10, 3, 9, 4, 8, 5, 7, 6), tuple(range(1, 13)), (2, 4, 6, 1, 3, 5))


def all_hooked(n):
    """Return all hooked patterns of n things."""
    bonds = [told for many in range(n + 2) for told in combinations(range(-1, n), many)]
    return [(pattern, told) for pattern in all_orders(n) for told in bonds]


class HookedTest(Case):
    def test_which_are_hooked(self):
        for n in (1, 2, 3):
            for hooked in all_hooked(n):
                self.assertIs(is_hooked(hooked), True)
                self.assertIs(is_fact(("shows",) + hooked), True)
        self.assertIs(is_hooked(((3, 1, 5, 2, 4), (-1, 0, 1, 2, 3, 4))), True)
        for told in NO_HOOKED:
            self.assertIs(is_hooked(told), False, told)

    def test_where_they_are_shown(self):
        hooked = [one for n in (1, 2, 3) for one in all_hooked(n)]
        for order in orders_to(4) + [(2, 5, 3, 1, 4), (5, 1, 4, 2, 3), (1, 2, 3, 4, 5)]:
            for one in hooked:
                found = slow_meetings(order, one)
                self.assertEqual(meeting_places(order, one), found)
                self.assertIs(meets(order, one), found != [])

    def test_long_ones(self):
        wide = (((1, 2, 3, 4, 5), ()), ((2, 1, 4, 3), (0, 2)), ((2, 4, 1, 3), ()), ((1, 3, 2, 5, 4), (-1, 4)),
                ((5, 1, 4, 2, 3), (-1, 0, 1, 2, 3)), ((1, 2), (-1, 1)), ((1, 2, 3), (-1, 0, 1, 2)), ((3, 1, 2), (1,)))
        for order in LONG:
            for hooked in wide:
                found = slow_meetings(order, hooked)
                self.assertEqual(meeting_places(order, hooked), found)
                self.assertIs(meets(order, hooked), found != [])

    def test_with_no_bonds_it_is_the_pattern(self):
        for order in orders_to(4):
            for pattern in orders_to(3)[1:]:
                self.assertEqual(meeting_places(order, (pattern, ())), places(order, pattern))
                self.assertEqual(meets(order, (pattern, ())), shows(order, pattern))

    def test_no_thing_and_one(self):
        for hooked in all_hooked(1) + all_hooked(2):
            self.assertEqual(meeting_places((), hooked), [])
            self.assertIs(meets((), hooked), False)
        for hooked in all_hooked(1):
            self.assertEqual(meeting_places((1,), hooked), [(0,)])

    def test_told_ones(self):
        self.assertIs(meets((1, 3, 2), ((2, 1), (0,))), True)
        self.assertIs(meets((3, 1, 2), ((2, 1), (1,))), True)
        self.assertIs(meets((2, 1, 3), ((2, 1), (1,))), False)
        self.assertIs(meets((2, 1, 3), ((2, 1), (-1, 0))), True)
        self.assertIs(meets((2, 3, 1), ((2, 1), (-1, 0))), False)
        self.assertEqual(meeting_places((3, 1, 2), ((2, 1), ())), [(0, 1), (0, 2)])

    def test_errors(self):
        for told in NO_HOOKED:
            for function in (meets, meeting_places):
                self.assert_raises(InvalidFact, told, function, (2, 1), told)
                self.assert_raises(InvalidFact, told, function, (1, 3), told)
        for told in NO_ORDERS:
            for function in (meets, meeting_places):
                self.assert_raises(InvalidOrder, told, function, told, ((2, 1), ()))


class MeasureTest(Case):
    def test_all_of_few_things(self):
        for order in orders_to(5):
            for name in MEASURES:
                self.assertEqual(measure(order, name), slow_measure(order, name))

    def test_told_ones(self):
        self.assertEqual([measure((), name) for name in MEASURES], [0, 0, 0, 0, 0])
        self.assertEqual([measure((1,), name) for name in MEASURES], [1, 0, 0, 1, 1])
        self.assertEqual([measure((3, 1, 2), name) for name in MEASURES], [3, 2, 1, 1, 1])
        self.assertEqual([measure(tuple(range(12, 0, -1)), name) for name in MEASURES], [12, 66, 11, 1, 1])
        self.assertEqual([measure((2, 1, 3, 6, 4, 5), name) for name in MEASURES], [6, 3, 2, 3, 3])

    def test_errors(self):
        for told in NO_MEASURES:
            self.assert_raises(InvalidFact, told, measure, (2, 1), told)
            self.assert_raises(InvalidFact, told, measure, (1, 3), told)
        for told in NO_ORDERS:
            self.assert_raises(InvalidOrder, told, measure, told, "things")


class FactTest(Case):
    def test_which_are_facts(self):
        for fact in FACTS:
            self.assertIs(is_fact(fact), True)
        for told in NO_FACTS:
            self.assertIs(is_fact(told), False, told)
        self.assertIs(is_fact(("least", "turns", 10 ** 30)), True)
        self.assertIs(is_fact(("rest", "turns", 9, 8)), True)

    def test_what_is_true(self):
        for order in orders_to(4) + list(LONG):
            for fact in FACTS:
                self.assertIs(is_true(fact, order), slow_truth(fact, order))
                self.assertIs(is_true(("not", fact), order), not slow_truth(fact, order))

    def test_both_and_either(self):
        told = {True: ("least", "things", 0), False: ("least", "things", 9)}
        for one in (True, False):
            for other in (True, False):
                self.assertIs(is_true(("both", told[one], told[other]), (2, 1)), one and other)
                self.assertIs(is_true(("either", told[one], told[other]), (2, 1)), one or other)

    def test_told_ones(self):
        self.assertIs(is_true(("both", ("rest", "turns", 2, 0), ("not", ("shows", (1, 2), (-1,)))), (3, 1, 2)), True)
        self.assertEqual([is_true(EVEN, order) for order in ((), (1,), (2, 1))], [True, False, True])
        self.assertEqual([is_true(("shows", (1,), ()), order) for order in ((), (1,))], [False, True])

    def test_hooked_of(self):
        self.assertEqual(hooked_of(EVEN), ())
        self.assertEqual(hooked_of(("shows", (2, 1), (0,))), (((2, 1), (0,)),))
        self.assertEqual(hooked_of(EIGHT_LEAVES), (((2, 1), (-1,)), ((1, 2), (1,)), ((2, 1), (-1,))))
        self.assertEqual(hooked_of(SIX_DEEP), (((2, 1), (0,)),))
        for fact in FACTS:
            self.assertEqual(hooked_of(fact), tuple(leaf[1:] for leaf in slow_leaves(fact) if leaf[0] == "shows"))

    def test_errors(self):
        for told in NO_FACTS:
            self.assert_raises(InvalidFact, told, is_true, told, (2, 1))
            self.assert_raises(InvalidFact, told, is_true, told, (1, 3))
            self.assert_raises(InvalidFact, told, hooked_of, told)
        for told in NO_ORDERS:
            self.assert_raises(InvalidOrder, told, is_true, EVEN, told)


if __name__ == "__main__":
    unittest.main()
