"""Orders, patterns, and the places at which an order shows a pattern."""

from itertools import permutations

from wholeorders.errors import InvalidOrder, InvalidPattern
from wholeorders.integers import are_integers, check_number
from wholeorders.matching import count_placings, placings


def is_order(told):
    """Tell whether something is a tuple of the integers 1 to n, each once."""
    return are_integers(told) and sorted(told) == list(range(1, len(told) + 1))


def is_pattern(told):
    """Tell whether something is an order of one or more things."""
    return is_order(told) and len(told) > 0


def check_order(order):
    """Raise InvalidOrder for what is no order."""
    if not is_order(order):
        raise InvalidOrder(order)


def check_things(order):
    """Raise InvalidOrder for what is no order of one or more things."""
    if not is_pattern(order):
        raise InvalidOrder(order)


def check_pattern(pattern):
    """Raise InvalidPattern for what is no pattern."""
    if not is_pattern(pattern):
        raise InvalidPattern(pattern)


def pattern_of(numbers):
    """Return the order that compares as a tuple of unlike integers."""
    if not are_integers(numbers) or len(set(numbers)) != len(numbers):
        raise InvalidOrder(numbers)
    return ranks_of(numbers)


def ranks_of(numbers):
    """Return the order that compares as unlike integers, which are not checked."""
    ranks = {number: at + 1 for at, number in enumerate(sorted(numbers))}
    return tuple([ranks[number] for number in numbers])


def does_show(order, pattern):
    """Tell whether an order shows a pattern; neither is checked."""
    return len(placings(order, pattern, 1)) == 1


def shows(order, pattern):
    """Tell whether an order shows a pattern."""
    check_order(order)
    check_pattern(pattern)
    return does_show(order, pattern)


def places(order, pattern):
    """Return the ascending list of all tuples of places at which an order shows a pattern."""
    check_order(order)
    check_pattern(pattern)
    return placings(order, pattern, -1)


def how_many(order, pattern):
    """Return at how many tuples of places an order shows a pattern."""
    check_order(order)
    check_pattern(pattern)
    return count_placings(order, pattern)


def turned(order):
    """Return the order whose numbers stand in the other direction."""
    check_order(order)
    return order[::-1]


def mirrored(order):
    """Return the order of n + 1 less each number."""
    check_order(order)
    return tuple([len(order) + 1 - number for number in order])


def inverse(order):
    """Return the order that has at place i - 1 the place, from 1 on, at which i stands."""
    check_order(order)
    at_place = [0] * len(order)
    for place, number in enumerate(order):
        at_place[number - 1] = place + 1
    return tuple(at_place)


def with_one_above(order):
    """Return the list of the orders that have one more thing, above all things of an order."""
    more = len(order) + 1
    return [order[:at] + (more,) + order[at:] for at in range(more)]


def with_one_at(order, place, number):
    """Return the order that has one more thing, a number at a place."""
    raised = [other + 1 if other >= number else other for other in order]
    return tuple(raised[:place] + [number] + raised[place:])


def with_one_less(order):
    """Return the list of what is left of an order without its first thing, its second one and so on."""
    left = []
    for at, number in enumerate(order):
        rest = order[:at] + order[at + 1:]
        left.append(tuple([other - 1 if other > number else other for other in rest]))
    return left


def parts_of(order, n):
    """Return the ascending list of all orders of n things that an order shows."""
    check_order(order)
    check_number(n)
    shown = [()]
    for _ in range(min(n, len(order) + 1)):
        grown = []
        for part in shown:
            for more in with_one_above(part):
                if does_show(order, more):
                    grown.append(more)
        shown = grown
    return sorted(shown)


def orders(n):
    """Return the ascending list of all orders of n things."""
    check_number(n)
    return list(permutations(range(1, n + 1)))
