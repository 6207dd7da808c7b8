"""The sixteen kinds of simple orders that never end, and whether a list stops them."""

from wholeorders.errors import InvalidFamily, InvalidNumber
from wholeorders.integers import is_integer
from wholeorders.lists import check_list
from wholeorders.patterns import does_show, inverse, mirrored, turned, with_one_at

POSTURES = {"between": (0, 1, 2, 3, 4, 5, 6, 7), "open": (0, 1, 4, 5), "parallel": (0, 1, 4, 5)}


def kinds():
    """Return the ascending list of the sixteen kinds."""
    return [(name, posture) for name in POSTURES for posture in POSTURES[name]]


def is_kind(told):
    """Tell whether something is one of the sixteen kinds."""
    if not isinstance(told, tuple) or len(told) != 2:
        return False
    name, posture = told
    return isinstance(name, str) and name in POSTURES and is_integer(posture) and posture in POSTURES[name]


def check_family(kind):
    """Raise InvalidFamily for none of the sixteen kinds."""
    if not is_kind(kind):
        raise InvalidFamily(kind)


def member(kind, n):
    """Return the member of a kind of n."""
    check_family(kind)
    if not is_integer(n) or n < 2:
        raise InvalidNumber(n)
    return member_of(kind, n)


def member_of(kind, n):
    """Return the member of a kind of n, neither of them checked."""
    name, posture = kind
    order = upright(name, n)
    if posture & 1:
        order = turned(order)
    if posture & 2:
        order = mirrored(order)
    return inverse(order) if posture & 4 else order


def upright(name, n):
    """Return the member of n of the kind of a name with the posture 0."""
    if name == "parallel":
        return tuple(range(2, 2 * n + 1, 2)) + tuple(range(1, 2 * n, 2))
    wedge = []
    for low in range(1, n + 1):
        wedge.append(low)
        wedge.append(2 * n + 1 - low)
    if name == "open":
        return with_one_at(tuple(wedge), 0, n + 1)
    return with_one_at(tuple(wedge), 2 * n - 1, 1)


def stops_kind(forbidden, kind):
    """Return the first pattern of a list that some member of a kind shows, or None."""
    check_family(kind)
    check_list(forbidden)
    return first_shown(forbidden, kind)


def first_shown(forbidden, kind):
    """Return the first pattern of a list that some member of a kind shows, or None; neither is checked."""
    for pattern in forbidden:
        # Its things lie in no more pairs of a member than it has things: all others but the last one can be left out.
        if does_show(member_of(kind, len(pattern) + 1), pattern):
            return pattern
    return None


def endless_kind(forbidden):
    """Return the first kind that a list does not stop, or None."""
    check_list(forbidden)
    return first_endless_kind(forbidden)


def first_endless_kind(forbidden):
    """Return the first kind that a list, which is not checked, does not stop, or None."""
    for kind in kinds():
        if first_shown(forbidden, kind) is None:
            return kind
    return None
