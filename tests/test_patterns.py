"""wholeorders.patterns: orders, patterns and the places at which an order shows a pattern."""

import random
import unittest
from itertools import combinations

from tests.helpers import NO_NUMBERS, NO_ORDERS, NO_PATTERNS, Case, all_orders, orders_to, slow_pattern, slow_places
from wholeorders.errors import InvalidNumber, InvalidOrder, InvalidPattern
from wholeorders.patterns import (how_many, inverse, is_order, is_pattern, mirrored, orders, parts_of, pattern_of,
                                  places, shows, turned)

TWELVE = (7, 2, 11, 4, 9, 1, 12, 6, 3, 10, 5, 8)


class OrdersTest(Case):
    def test_is_order(self):
        for order in [(), (1,), (2, 1), (2, 4, 1, 3), TWELVE, tuple(range(1000, 0, -1))]:
            self.assertIs(is_order(order), True)
        for told in NO_ORDERS + ((1, 2, 4), (10 ** 30,), (1, 2, 2), (-1,), (0,), (2, 3), ([1],), (1.0,)):
            self.assertIs(is_order(told), False, told)

    def test_is_pattern(self):
        for pattern in [(1,), (2, 1), (2, 4, 1, 3), TWELVE]:
            self.assertIs(is_pattern(pattern), True)
        for told in NO_PATTERNS:
            self.assertIs(is_pattern(told), False, told)

    def test_orders(self):
        self.assertEqual(orders(0), [()])
        self.assertEqual(orders(1), [(1,)])
        self.assertEqual(orders(3), [(1, 2, 3), (1, 3, 2), (2, 1, 3), (2, 3, 1), (3, 1, 2), (3, 2, 1)])
        self.assertEqual(len(orders(7)), 5040)
        self.assertEqual(orders(7), sorted(set(orders(7))))
        for n in range(7):
            self.assertTrue(all(is_order(order) and len(order) == n for order in orders(n)))
        for n in NO_NUMBERS:
            self.assert_raises(InvalidNumber, n, orders, n)

    def test_pattern_of(self):
        self.assertEqual(pattern_of((5, -2, 9)), (2, 1, 3))
        self.assertEqual(pattern_of(()), ())
        self.assertEqual(pattern_of((10 ** 40,)), (1,))
        self.assertEqual(pattern_of((0, -1, -2)), (3, 2, 1))
        for told in (None, 3, "12", [1, 2], (1, 1), (1, "2"), (True, 2), (1, None), (3, 1, 3), ((1,),)):
            self.assert_raises(InvalidOrder, told, pattern_of, told)

    def test_each_of_the_three_turns(self):
        self.assertEqual([turned(()), mirrored(()), inverse(())], [(), (), ()])
        self.assertEqual([turned((1,)), mirrored((1,)), inverse((1,))], [(1,), (1,), (1,)])
        self.assertEqual([turned((2, 3, 1)), mirrored((2, 3, 1)), inverse((2, 3, 1))], [(1, 3, 2), (2, 1, 3), (3, 1, 2)])
        for order in orders_to(5):
            n = len(order)
            self.assertEqual(turned(order), tuple(order[n - 1 - at] for at in range(n)))
            self.assertEqual(mirrored(order), tuple(n + 1 - number for number in order))
            self.assertTrue(all(order[inverse(order)[number - 1] - 1] == number for number in range(1, n + 1)))
            self.assertEqual(inverse(inverse(order)), order)
        for function in (turned, mirrored, inverse):
            for told in NO_ORDERS:
                self.assert_raises(InvalidOrder, told, function, told)


class ShownTest(Case):
    def test_all_orders_of_few_things(self):
        patterns = orders_to(4)[1:]
        for order in orders_to(5):
            for pattern in patterns:
                found = slow_places(order, pattern)
                self.assertEqual(places(order, pattern), found)
                self.assertIs(shows(order, pattern), len(found) > 0)
                self.assertEqual(how_many(order, pattern), len(found))

    def test_orders_of_more_things(self):
        chance = random.Random(1)
        for many in range(6, 13):
            order = tuple(chance.sample(range(1, many + 1), many))
            for length in range(1, 6):
                for _ in range(6):
                    pattern = tuple(chance.sample(range(1, length + 1), length))
                    found = slow_places(order, pattern)
                    self.assertEqual(places(order, pattern), found)
                    self.assertEqual(shows(order, pattern), len(found) > 0)
                    self.assertEqual(how_many(order, pattern), len(found))

    def test_shows_patterns_of_nine(self):
        for chosen in ((0, 1, 2), (0, 5, 11), (9, 10, 11), (2, 4, 8)):
            rest = [number for place, number in enumerate(TWELVE) if place not in chosen]
            self.assertIs(shows(TWELVE, slow_pattern(rest)), True)
        self.assertIs(shows(TWELVE, tuple(range(1, 10))), False)
        self.assertIs(shows(tuple(range(1, 13)), (1, 2, 3, 4, 5, 6, 7, 9, 8)), False)

    def test_orders_that_the_program_returns(self):
        long = tuple(number for low in range(1, 61) for number in (low, 121 - low))
        self.assertIs(shows(long, (1, 2, 3, 5, 4)), True)
        self.assertIs(shows(long, (2, 4, 1, 3)), False)
        self.assertIs(shows(long, (4, 3, 1, 5, 2)), False)
        self.assertEqual(how_many(tuple(range(1, 121)), (1, 2, 3, 4, 5)), 190578024)
        self.assertEqual(places(tuple(range(1, 41)), (2, 1)), [])
        self.assertEqual(len(places(tuple(range(1, 41)), (1, 2, 3))), 9880)

    def test_edges(self):
        self.assertIs(shows((), (1,)), False)
        self.assertEqual(places((), (1,)), [])
        self.assertEqual(how_many((), (1,)), 0)
        self.assertEqual(places((1,), (1,)), [(0,)])
        self.assertEqual(places((1, 2), (1, 2, 3)), [])
        self.assertEqual(places((2, 1), (1,)), [(0,), (1,)])

    def test_errors(self):
        for function in (shows, places, how_many):
            for told in NO_ORDERS:
                self.assert_raises(InvalidOrder, told, function, told, (1,))
            for told in NO_PATTERNS:
                self.assert_raises(InvalidPattern, told, function, (1, 2), told)
            self.assert_raises(InvalidOrder, (1, 3), function, (1, 3), ())
            self.assert_raises(InvalidPattern, (), function, order=(), pattern=())


class PartsOfTest(Case):
    def test_all_orders_of_few_things(self):
        for order in orders_to(5):
            for n in range(7):
                found = sorted({slow_pattern(part) for part in combinations(order, n)})
                self.assertEqual(parts_of(order, n), found)

    def test_bounds(self):
        self.assertEqual(parts_of(TWELVE, 0), [()])
        self.assertEqual(parts_of((), 0), [()])
        self.assertEqual(parts_of((), 1), [])
        self.assertEqual(parts_of((1,), 1), [(1,)])
        self.assertEqual(parts_of(TWELVE, 5), sorted({slow_pattern(part) for part in combinations(TWELVE, 5)}))
        self.assertEqual(parts_of(tuple(range(1, 121)), 5), [(1, 2, 3, 4, 5)])

    def test_errors(self):
        for told in NO_ORDERS:
            self.assert_raises(InvalidOrder, told, parts_of, told, 2)
            self.assert_raises(InvalidOrder, told, parts_of, told, -1)
        for n in NO_NUMBERS:
            self.assert_raises(InvalidNumber, n, parts_of, (2, 1), n)


if __name__ == "__main__":
    unittest.main()
