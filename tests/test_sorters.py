"""wholeorders.sorters: four sorters, what they make of orders, and which orders they sort."""

import unittest

from tests.helpers import NO_NUMBERS, NO_ORDERS, Case, left_of, orders_to, slow_lets
from wholeorders.errors import InvalidNumber, InvalidOrder, InvalidSorter
from wholeorders.sorters import least_unsorted, list_of, made, passes, sorts

SORTERS = {
    "stack": ((2, 3, 1),), "popper": ((2, 3, 1), (3, 1, 2)), "queues": ((3, 2, 1),), "bubble": ((2, 3, 1), (3, 2, 1))}
NO_SORTERS = (None, 1, "", "Stack", "stack ", "stacks", b"stack", ["stack"], ("stack",), (), [], {}, True, "queue")


def stacked(order):
    """Return what a stack makes: all ahead of the greatest number, all behind it, and this."""
    if not order:
        return ()
    at = order.index(max(order))
    return stacked(order[:at]) + stacked(order[at + 1:]) + (order[at],)


def bubbled(order):
    """Return what a bubble makes: the same of what stands ahead of the greatest number, what stands behind it, this."""
    if not order:
        return ()
    at = order.index(max(order))
    return bubbled(order[:at]) + order[at + 1:] + (order[at],)


def popped(order):
    """Return what a popper makes: each longest falling stretch turned about."""
    stretches = []
    for number in order:
        if not stretches or stretches[-1][-1] < number:
            stretches.append([])
        stretches[-1].append(number)
    return tuple(number for stretch in stretches for number in stretch[::-1])


def queued(order):
    """Return what two rows make, of which each number takes the first into which it fits, else the first one."""
    rows = [[], []]
    for number in order:
        fitting = [row for row in rows if not row or row[-1] < number] + rows[:1]
        fitting[0].append(number)
    left = []
    while rows[0] and rows[1]:
        left.append(min(rows, key=lambda row: row[0]).pop(0))
    return tuple(left + rows[0] + rows[1])


SLOW = {"stack": stacked, "popper": popped, "queues": queued, "bubble": bubbled}


class SortersTest(Case):
    def test_what_they_make(self):
        for sorter, slow in SLOW.items():
            for order in orders_to(6):
                self.assertEqual(made(sorter, order), slow(order))
                self.assertIs(type(made(sorter, order)), tuple)
        self.assertEqual(made("stack", (2, 3, 1)), (2, 1, 3))
        self.assertEqual(made("popper", (3, 1, 2)), (1, 3, 2))
        self.assertEqual(made("queues", (3, 2, 1)), (2, 3, 1))
        self.assertEqual(made("queues", (3, 2, 1, 4)), (2, 3, 1, 4))
        self.assertEqual(made("bubble", (3, 2, 1)), (2, 1, 3))

    def test_a_sorter_sorts_an_order_exactly_if_it_shows_none_of_its_list(self):
        for sorter, forbidden in SORTERS.items():
            self.assertEqual(list_of(sorter), forbidden)
            for order in orders_to(6):
                self.assertIs(sorts(sorter, order), slow_lets(forbidden, order))

    def test_edges(self):
        for sorter in SORTERS:
            for order in ((), (1,)):
                self.assertEqual(made(sorter, order), order)
                self.assertIs(sorts(sorter, order), True)
                self.assertEqual(passes(sorter, order), 0)
            rising = tuple(range(1, 13))
            self.assertEqual([made(sorter, rising), passes(sorter, rising)], [rising, 0])
        falling = tuple(range(12, 0, -1))
        self.assertEqual([passes(sorter, falling) for sorter in ("stack", "popper", "bubble")], [1, 1, 11])

    def test_passes(self):
        for sorter, slow in SLOW.items():
            for order in orders_to(6):
                goal = tuple(range(1, len(order) + 1))
                rows = [order]
                for _ in order:
                    rows.append(slow(rows[-1]))
                self.assertEqual(passes(sorter, order), rows.index(goal) if goal in rows else None)
        self.assertEqual(passes("bubble", (2, 3, 1)), 2)

    def test_no_order_of_few_things_takes_as_many_passes_as_things(self):
        for sorter in SORTERS:
            for order in orders_to(7)[1:]:
                self.assertLess(passes(sorter, order), len(order))

    def test_least_unsorted(self):
        for sorter, slow in SLOW.items():
            good = {order: slow(order) == tuple(sorted(order)) for order in orders_to(6)}
            whole = {(): True}
            found = []
            for order in orders_to(6)[1:]:
                below = all(whole[less] for less in left_of(order))
                whole[order] = below and good[order]
                if below and not good[order]:
                    found.append(order)
            for n in range(7):
                self.assertEqual(least_unsorted(sorter, n), [order for order in found if len(order) <= n])
            self.assertEqual(tuple(least_unsorted(sorter, 6)), SORTERS[sorter])
            self.assertEqual(least_unsorted(sorter, 0), [])

    def test_errors(self):
        for told in NO_SORTERS:
            self.assert_raises(InvalidSorter, told, made, told, (1,))
            self.assert_raises(InvalidSorter, told, made, told, None)
            self.assert_raises(InvalidSorter, told, sorts, told, None)
            self.assert_raises(InvalidSorter, told, passes, told, None)
            self.assert_raises(InvalidSorter, told, list_of, told)
            self.assert_raises(InvalidSorter, told, least_unsorted, told, -1)
        for told in NO_ORDERS:
            for function in (made, sorts, passes):
                self.assert_raises(InvalidOrder, told, function, "stack", told)
        for n in NO_NUMBERS:
            self.assert_raises(InvalidNumber, n, least_unsorted, "bubble", n)


if __name__ == "__main__":
    unittest.main()
