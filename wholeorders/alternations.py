"""The four kinds of endless alternations, and whether a list stops them."""

from wholeorders.errors import InvalidKind
from wholeorders.futures import FIRST_STATE, Futures
from wholeorders.integers import are_integers, check_number
from wholeorders.lists import check_list, does_let
from wholeorders.patterns import does_show
from wholeorders.slots import BOTH_SIDES

KINDS = ((-1, -1), (-1, 1), (1, -1), (1, 1))


def check_kind(kind):
    """Raise InvalidKind for what is no pair of 1 or -1."""
    if not are_integers(kind) or kind not in KINDS:
        raise InvalidKind(kind)


def alternation(kind, n):
    """Return the alternation of n of a kind."""
    check_kind(kind)
    check_number(n)
    return alternating(kind, n)


def alternating(kind, n):
    """Return the alternation of n of a kind, neither of them checked."""
    lower = running(kind[0], 1, n)
    upper = running(kind[1], n + 1, 2 * n)
    numbers = []
    for low, high in zip(lower, upper):
        numbers.append(low)
        numbers.append(high)
    return tuple(numbers)


def running(way, low, high):
    """Return the list of the integers from low to high, ascending if the way is 1, else descending."""
    return list(range(low, high + 1)) if way == 1 else list(range(high, low - 1, -1))


def stops(forbidden, kind):
    """Tell whether a list stops a kind."""
    check_kind(kind)
    check_list(forbidden)
    return does_stop(forbidden, kind)


def does_stop(forbidden, kind):
    """Tell whether a list stops a kind, neither of them checked."""
    longest = max([len(pattern) for pattern in forbidden], default=0)
    return not does_let(forbidden, alternating(kind, longest))


def stopped(forbidden):
    """Return the tuple of the first patterns that stop the kinds, None for a kind that is not stopped."""
    check_list(forbidden)
    return tuple([first_stopping(forbidden, kind) for kind in KINDS])


def first_stopping(forbidden, kind):
    """Return the first pattern that the alternation of as many as it has things shows, or None."""
    for pattern in forbidden:
        if does_show(alternating(kind, len(pattern)), pattern):
            return pattern
    return None


def endless(forbidden):
    """Return the first kind that is not stopped, or None."""
    check_list(forbidden)
    return first_endless(forbidden)


def first_endless(forbidden):
    """Return the first kind that a list, which is not checked, does not stop, or None."""
    for kind in KINDS:
        if not does_stop(forbidden, kind):
            return kind
    return None


def most_slots(forbidden):
    """Return the greatest number of slots of an open form, or None if a kind is not stopped."""
    check_list(forbidden)
    if first_endless(forbidden) is not None:
        return None
    futures = Futures(forbidden)
    # An open form stays open if numbers are taken away: one number between two slots is enough, put by way 0 alone.
    states = [FIRST_STATE] if futures.is_live(FIRST_STATE) else []
    most = 0
    while states:
        most += 1
        states = wider(futures, states, most)
    return most


def wider(futures, states, many):
    """Return the live states of one slot more than states of so many slots."""
    found = {}
    for state in states:
        for slot in range(1, many + 1):
            after = futures.live_behind(state, (slot, BOTH_SIDES))
            if after is not None:
                found[after] = True
    return list(found)
