"""wholeorders.alternations: the four kinds, what stops them, and how many slots open forms have."""

import unittest

from tests.helpers import (ENDLESS_LISTS, LISTS, MOST_STATES, NO_INTEGERS, NO_LISTS, NO_NUMBERS, NOTHING,
                           STOPPING_LISTS, THREE_KINDS_STOPPED, TWO, Case, orders_to, slow_forms, slow_lets)
from wholeorders.alternations import alternation, endless, most_slots, stopped, stops
from wholeorders.errors import InvalidKind, InvalidList, InvalidNumber

KINDS = ((-1, -1), (-1, 1), (1, -1), (1, 1))
NO_KINDS = NO_INTEGERS + (1, (1,), (1, 1, 1), [1, 1], (0, 1), (1, 2), (1, -2), (True, 1), (1, "1"), ("1", "1"),
                          (1, None), (), ((1, 1),))


def slow_alternation(kind, n):
    """Return the alternation of n of a kind, place by place."""
    numbers = []
    for at in range(n):
        numbers.append(1 + at if kind[0] == 1 else n - at)
        numbers.append(n + 1 + at if kind[1] == 1 else 2 * n - at)
    return tuple(numbers)


class AlternationsTest(Case):
    def test_alternation(self):
        self.assertEqual(alternation((1, -1), 3), (1, 6, 2, 5, 3, 4))
        self.assertEqual(alternation((-1, -1), 2), (2, 4, 1, 3))
        self.assertEqual(alternation((-1, 1), 2), (2, 3, 1, 4))
        self.assertEqual(alternation((1, 1), 2), (1, 3, 2, 4))
        for kind in KINDS:
            self.assertEqual([alternation(kind, 0), alternation(kind, 1)], [(), (1, 2)])
            for n in (2, 3, 7, 60):
                self.assertEqual(alternation(kind, n), slow_alternation(kind, n))

    def test_errors_of_alternation(self):
        for told in NO_KINDS:
            self.assert_raises(InvalidKind, told, alternation, told, 3)
            self.assert_raises(InvalidKind, told, alternation, told, -1)
        for n in NO_NUMBERS:
            self.assert_raises(InvalidNumber, n, alternation, (1, 1), n)


class StoppedTest(Case):
    def test_all_lists(self):
        for forbidden in LISTS + STOPPING_LISTS:
            longest = max([len(pattern) for pattern in forbidden], default=0)
            whole = [not slow_lets(forbidden, slow_alternation(kind, longest)) for kind in KINDS]
            self.assertEqual([stops(forbidden, kind) for kind in KINDS], whole)
            firsts = []
            for kind in KINDS:
                shown = [pattern for pattern in forbidden
                         if not slow_lets((pattern,), slow_alternation(kind, len(pattern)))]
                firsts.append(shown[0] if shown else None)
            self.assertEqual(stopped(forbidden), tuple(firsts))
            going = [kind for kind in KINDS if not stops(forbidden, kind)]
            self.assertEqual(endless(forbidden), going[0] if going else None)
            self.assertEqual(most_slots(forbidden) is None, len(going) > 0)
            self.assertIs(type(stopped(forbidden)), tuple)

    def test_an_alternation_is_not_stopped_later(self):
        for forbidden in LISTS:
            for kind in KINDS:
                self.assertIs(stops(forbidden, kind), not slow_lets(forbidden, slow_alternation(kind, 7)))

    def test_lists_that_stop_but_three(self):
        for forbidden, kind in ENDLESS_LISTS:
            self.assertEqual(endless(forbidden), kind)
            self.assertIs(stops(forbidden, kind), False)
            self.assertIsNone(most_slots(forbidden))

    def test_edges(self):
        self.assertEqual(stopped(()), (None, None, None, None))
        self.assertEqual([stops((), kind) for kind in KINDS], [False] * 4)
        self.assertEqual(endless(()), (-1, -1))
        self.assertIsNone(most_slots(()))
        self.assertEqual(stopped(NOTHING), ((1,), (1,), (1,), (1,)))
        self.assertIsNone(endless(NOTHING))
        self.assertEqual(stopped(THREE_KINDS_STOPPED), ((2, 3, 1), (2, 3, 1), None, (2, 3, 1)))
        self.assertEqual(endless(THREE_KINDS_STOPPED), (1, -1))
        self.assertIsNone(most_slots(THREE_KINDS_STOPPED))
        self.assertEqual(stopped(((1, 2, 3), (2, 4, 1, 3), (1, 2)))[0], (2, 4, 1, 3))

    def test_errors(self):
        for told in NO_KINDS:
            self.assert_raises(InvalidKind, told, stops, ((1, 2),), told)
            self.assert_raises(InvalidKind, told, stops, (7,), told)
        for told in NO_LISTS:
            self.assert_raises(InvalidList, told, stops, told, (1, 1))
            for function in (stopped, endless, most_slots):
                self.assert_raises(InvalidList, told, function, told)


class MostSlotsTest(Case):
    def test_what_the_forms_of_let_orders_have(self):
        """A form of s slots can be filled to an order of 2 s - 1 things, so orders of 7 tell of up to 4 slots."""
        forms = {}
        for order in orders_to(7)[1:]:
            forms[order] = max(form.count(0) for form in slow_forms(order))
        for forbidden in STOPPING_LISTS:
            self.assertIsNone(endless(forbidden))
            found = most_slots(forbidden)
            if found <= 3:
                let = [many for order, many in forms.items() if slow_lets(forbidden, order)]
                self.assertEqual(found, max(let, default=0), forbidden)

    def test_told_ones(self):
        self.assertEqual(most_slots(NOTHING), 0)
        self.assertEqual(most_slots(((1, 2), (2, 1))), 1)
        self.assertEqual(most_slots(((1, 2),)), 1)
        self.assertEqual(most_slots(TWO), 2)
        self.assertEqual(most_slots(((2, 3, 1), (1, 3, 2))), 2)
        self.assertEqual(most_slots(((1, 2, 3), (3, 2, 1))), 2)
        self.assertEqual(most_slots(((2, 3, 1), (4, 3, 1, 2))), 3)

    def test_at_the_bound(self):
        self.assertEqual(most_slots(MOST_STATES), 5)
        self.assertEqual(most_slots(((1, 2, 3, 4), (1, 4, 3, 2), (5, 3, 2, 4, 1))), 5)


if __name__ == "__main__":
    unittest.main()
