"""wholeorders.sayings: sayings, the least lists that they mean, and the orders that they mean."""

import unittest

from tests.helpers import NO_LISTS, NO_NUMBERS, NO_ORDERS, NOTHING, RISING, TWO, Case, all_orders, slow_lets
from tests.test_sorters import NO_SORTERS, SLOW
from wholeorders.errors import InvalidNumber, InvalidOrder, InvalidSaying
from wholeorders.lists import least, let_of
from wholeorders.patterns import inverse, mirrored, turned
from wholeorders.sayings import is_meant, is_saying, lot_of, meaning

ALL = ("list", ())
FALLING = ("list", ((1, 2),))
STACK = ("sorted", "stack")
QUEUES = ("sorted", "queues")
DOUBLE = ("list", ((2, 3, 1), (1, 3, 4, 2), (2, 3, 1)))
FIVE = ("list", ((2, 4, 1, 5, 3), (1, 2, 3, 4, 5), (3, 2, 1, 5, 4)))
SAYINGS = (
    ALL, ("list", NOTHING), FALLING, ("list", RISING), ("list", TWO), DOUBLE, FIVE, STACK, QUEUES,
    ("sorted", "popper"), ("sorted", "bubble"), ("turned", STACK), ("mirrored", STACK), ("inverse", STACK),
    ("inverse", FIVE), ("turned", ("mirrored", ("inverse", ("turned", STACK)))),
    ("both", STACK, ("turned", ("list", ((2, 1, 3),)))), ("both", ALL, DOUBLE), ("both", FIVE, ("list", NOTHING)),
    ("both", QUEUES, FIVE), ("either", FALLING, ("list", RISING)), ("either", STACK, ("inverse", STACK)),
    ("either", ("list", NOTHING), STACK), ("either", ALL, STACK), ("either", ("sorted", "bubble"), ("list", TWO)),
    ("both", ("either", FALLING, ("list", RISING)), ("inverse", QUEUES)),
    ("inverse", ("turned", ("mirrored", ("both", ("turned", STACK), ("sorted", "bubble"))))))
DEEP = ("inverse", ("either", ("both", ("turned", ("mirrored", STACK)), ("inverse", QUEUES)), ("mirrored", FALLING)))
LARGE_EITHERS = (
    ("either", FIVE, ("list", ((5, 4, 3, 2, 1), (2, 1, 4, 3)))), ("either", FIVE, ("turned", FIVE)),
    ("both", ("either", ("inverse", FIVE), ("list", ((4, 3, 2, 1),))), ("either", FIVE, STACK)))
NO_SAYINGS = (
    None, 3, "", "list", (), [], ["list", ()], ("list",), ("list", (), ()), ("lists", ()), ("sorted",),
    ("sorted", "stack", "stack"), ("sorted", ()), ("turned",), ("turned", STACK, STACK), ("turned", ()),
    ("turned", "stack"), ("turned", ["sorted", "stack"]), ("both", STACK), ("both", STACK, STACK, STACK),
    ("both", STACK, ["sorted", "stack"]), ("either", STACK, None), ("either", (STACK, STACK)), ("not", STACK),
    ("inverse", ("mirrored", ("turned", ("sorted", "heap")))), (b"list", ()), (("list", ()),), (None, ()),
    ("mirrored", ("list", [(1, 2)])), ("both", ("list", ()), ("list", ((1, 3),))), (True, STACK))


def slow_lot(saying, n):
    """Return the set of the orders of n things that a saying means."""
    kind = saying[0]
    if kind == "list":
        return {order for order in all_orders(n) if slow_lets(saying[1], order)}
    if kind == "sorted":
        return {order for order in all_orders(n) if list(SLOW[saying[1]](order)) == sorted(order)}
    if kind in ("turned", "mirrored", "inverse"):
        turn = {"turned": turned, "mirrored": mirrored, "inverse": inverse}[kind]
        return {turn(order) for order in slow_lot(saying[1], n)}
    one, other = slow_lot(saying[1], n), slow_lot(saying[2], n)
    return one & other if kind == "both" else one | other


class SayingsTest(Case):
    def test_is_saying(self):
        for told in SAYINGS + LARGE_EITHERS + (DEEP,):
            self.assertIs(is_saying(told), True)
        for told in NO_SAYINGS:
            self.assertIs(is_saying(told), False, told)
        for told in NO_LISTS:
            self.assertIs(is_saying(("list", told)), False, told)
        for told in NO_SORTERS:
            self.assertIs(is_saying(("sorted", told)), False, told)

    def test_what_they_mean(self):
        for saying in SAYINGS + (DEEP,):
            found = meaning(saying)
            self.assertEqual(found, least(found))
            for n in range(6):
                lot = slow_lot(saying, n)
                self.assertEqual(lot_of(saying, n), sorted(lot))
                self.assertEqual(let_of(found, n), sorted(lot))
                for order in all_orders(n):
                    self.assertIs(is_meant(saying, order), order in lot)
            self.assertEqual(lot_of(saying, 6), let_of(found, 6))

    def test_told_ones(self):
        self.assertEqual(meaning(ALL), ())
        self.assertEqual(meaning(("list", NOTHING)), NOTHING)
        self.assertEqual(meaning(DOUBLE), ((2, 3, 1),))
        self.assertEqual(meaning(FIVE), ((1, 2, 3, 4, 5), (2, 4, 1, 5, 3), (3, 2, 1, 5, 4)))
        self.assertEqual([meaning(("sorted", sorter)) for sorter in ("stack", "popper", "queues", "bubble")],
                         [((2, 3, 1),), ((2, 3, 1), (3, 1, 2)), ((3, 2, 1),), ((2, 3, 1), (3, 2, 1))])
        self.assertEqual([meaning((turn, STACK)) for turn in ("turned", "mirrored", "inverse")],
                         [((1, 3, 2),), ((2, 1, 3),), ((3, 1, 2),)])
        self.assertEqual(meaning(("both", STACK, ("turned", ("list", ((2, 1, 3),))))), ((2, 3, 1), (3, 1, 2)))
        self.assertEqual(meaning(("either", FALLING, ("list", RISING))),
                         ((1, 3, 2), (2, 1, 3), (2, 3, 1), (3, 1, 2)))
        self.assertEqual(meaning(("either", ALL, STACK)), ())
        self.assertEqual(meaning(("either", ("list", NOTHING), STACK)), ((2, 3, 1),))

    def test_eithers_of_patterns_of_as_many_things_as_there_may_be(self):
        for saying in LARGE_EITHERS:
            for n in range(6):
                lot = slow_lot(saying, n)
                self.assertEqual(lot_of(saying, n), sorted(lot))
                self.assertEqual([order for order in all_orders(n) if is_meant(saying, order)], sorted(lot))
        saying = LARGE_EITHERS[0]
        order = (1, 2, 3, 4, 9, 8, 7, 6, 5, 12, 11, 10)
        self.assertIs(is_meant(saying, order), False)
        self.assertIs(is_meant(saying, tuple(range(12, 0, -1))), True)
        self.assertIs(is_meant(saying, tuple(range(1, 13))), True)
        self.assertEqual(lot_of(saying, 6), [order for order in all_orders(6) if is_meant(saying, order)])

    def test_six_deep(self):
        self.assertEqual(lot_of(DEEP, 6), [order for order in all_orders(6) if is_meant(DEEP, order)])
        self.assertEqual(let_of(meaning(DEEP), 6), lot_of(DEEP, 6))

    def test_edges(self):
        for saying in SAYINGS:
            self.assertEqual(lot_of(saying, 0), [()])
            self.assertIs(is_meant(saying, ()), True)
            self.assertEqual(lot_of(saying, 1), [(1,)] if is_meant(saying, (1,)) else [])

    def test_errors(self):
        for told in NO_SAYINGS:
            self.assert_raises(InvalidSaying, told, meaning, told)
            self.assert_raises(InvalidSaying, told, lot_of, told, -1)
            self.assert_raises(InvalidSaying, told, is_meant, told, None)
        for n in NO_NUMBERS:
            self.assert_raises(InvalidNumber, n, lot_of, STACK, n)
        for told in NO_ORDERS:
            self.assert_raises(InvalidOrder, told, is_meant, STACK, told)


if __name__ == "__main__":
    unittest.main()
