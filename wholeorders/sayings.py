"""Sayings: what lists, turns of them and sorters let, put together by both and either."""

from wholeorders.errors import InvalidSaying
from wholeorders.integers import check_number
from wholeorders.lists import does_let, inverse_list, is_list, joined, least_of, let_of, met, mirrored_list
from wholeorders.lists import turned_list
from wholeorders.patterns import check_order, inverse, mirrored, orders, turned
from wholeorders.sorters import does_sort, is_sorter, list_of

TURNS = ("turned", "mirrored", "inverse")
PAIRS = ("both", "either")


def is_saying(told):
    """Tell whether something is a saying."""
    if not isinstance(told, tuple) or len(told) < 2:
        return False
    kind = told[0]
    if kind in PAIRS:
        return len(told) == 3 and is_saying(told[1]) and is_saying(told[2])
    if len(told) != 2:
        return False
    if kind in TURNS:
        return is_saying(told[1])
    return (kind == "list" and is_list(told[1])) or (kind == "sorted" and is_sorter(told[1]))


def check_saying(saying):
    """Raise InvalidSaying for what is no saying."""
    if not is_saying(saying):
        raise InvalidSaying(saying)


def meaning(saying):
    """Return the least list that a saying means."""
    check_saying(saying)
    return meant_list(saying)


def meant_list(saying):
    """Return the least list that a saying, which is not checked, means."""
    kind = saying[0]
    if kind == "list":
        return least_of(saying[1])
    if kind == "sorted":
        return list_of(saying[1])
    inner = meant_list(saying[1])
    if kind == "turned":
        return turned_list(inner)
    if kind == "mirrored":
        return mirrored_list(inner)
    if kind == "inverse":
        return inverse_list(inner)
    other = meant_list(saying[2])
    return met(inner, other) if kind == "both" else joined(inner, other)


def turned_by(kind, order):
    """Return an order turned about, mirrored or inverse; each of these takes itself back."""
    if kind == "turned":
        return turned(order)
    return mirrored(order) if kind == "mirrored" else inverse(order)


def lot_of(saying, n):
    """Return the ascending list of the orders of n things that a saying means."""
    check_saying(saying)
    check_number(n)
    return sorted(meant_lot(saying, n))


def meant_lot(saying, n):
    """Return the list of the orders of n things that a saying, which is not checked, means."""
    kind = saying[0]
    if kind == "list":
        return let_of(saying[1], n)
    if kind == "sorted":
        return [order for order in orders(n) if does_sort(saying[1], order)]
    lot = meant_lot(saying[1], n)
    if kind in TURNS:
        return [turned_by(kind, order) for order in lot]
    known = {order: True for order in lot}
    other = meant_lot(saying[2], n)
    if kind == "both":
        return [order for order in other if order in known]
    return lot + [order for order in other if order not in known]


def is_meant(saying, order):
    """Tell whether a saying means an order."""
    check_saying(saying)
    check_order(order)
    return does_mean(saying, order)


def does_mean(saying, order):
    """Tell whether a saying means an order, neither of them checked."""
    kind = saying[0]
    if kind == "list":
        return does_let(saying[1], order)
    if kind == "sorted":
        return does_sort(saying[1], order)
    if kind in TURNS:
        return does_mean(saying[1], turned_by(kind, order))
    if kind == "both":
        return does_mean(saying[1], order) and does_mean(saying[2], order)
    return does_mean(saying[1], order) or does_mean(saying[2], order)
