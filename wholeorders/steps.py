"""Simple orders, and the steps of one thing or two that lead from one to the next.

Of five things or more each simple order shows a simple one of one thing fewer, or it is a member of a parallel kind
(Schmerl, Trotter). So all of n things come of those of n - 1 by one thing more, and of the four parallel kinds.
"""

from wholeorders.blocks import is_simple, is_simple_order
from wholeorders.errors import InvalidNumber, InvalidOrder
from wholeorders.families import member_of
from wholeorders.integers import check_number, is_integer
from wholeorders.lists import check_list, let_ones
from wholeorders.patterns import check_order, does_show, with_one_at, with_one_less

LEAST = 4
PARALLEL = (("parallel", 0), ("parallel", 1), ("parallel", 4), ("parallel", 5))


def without(order, at):
    """Return the order that is left without the thing at a place."""
    check_order(order)
    if not is_integer(at) or not 0 <= at < len(order):
        raise InvalidNumber(at)
    return with_one_less(order)[at]


def one_more(order):
    """Return the ascending list of all orders of one thing more of which an order is left."""
    check_order(order)
    found = {}
    for place in range(len(order) + 1):
        for number in range(1, len(order) + 2):
            found[with_one_at(order, place, number)] = True
    return sorted(found)


def simple_orders(n):
    """Return the ascending list of the simple orders of n things."""
    check_number(n)
    return simples_let((), n)


def simple_let(forbidden, n):
    """Return the ascending list of the simple orders of n things that a list lets."""
    check_list(forbidden)
    check_number(n)
    return simples_let(forbidden, n)


def simples_let(forbidden, n):
    """Return the ascending list of the simple orders of n things that a list lets, neither of them checked."""
    found = []
    for more in range(LEAST, n + 1):
        found = simples_behind(forbidden, found, more)
    return found


def simples_behind(forbidden, ahead, n):
    """Return the ascending list of the let simple orders of n things, from 4 on; ahead are all those of n - 1."""
    let = {order: True for order in ahead}
    # Most of what is not let shows it by one thing less: so the patterns are looked for in few orders.
    hopeful = [order for order in simple_candidates(ahead, n) if are_all_let(let, with_one_less(order))]
    return sorted(let_ones(forbidden, hopeful))


def are_all_let(let, orders):
    """Tell whether those of some orders that are simple are let."""
    for order in orders:
        if order not in let and is_simple(order):
            return False
    return True


def simple_candidates(ahead, n):
    """Return a dict of the simple orders of n things, from 4 on, that may be let.

    These are those that come by one thing more of the simple ones ahead, which are let, and the lone ones.
    """
    found = {order: True for order in lone_orders(n)}
    for order in ahead:
        for more in simple_ones_above(order):
            found[more] = True
    return found


def lone_orders(n):
    """Return the list of the lone orders of n things, from 4 on; both of four things stand there twice."""
    return [] if n % 2 else [member_of(kind, n // 2) for kind in PARALLEL]


def simple_ones_above(order):
    """Return the list of the simple orders of one thing more of which a simple one is left; some stand there twice."""
    found = []
    for place in range(len(order) + 1):
        barred = barred_numbers(order, place)
        found.extend([with_one_at(order, place, at) for at in range(1, len(order) + 2) if at not in barred])
    return found


def barred_numbers(order, place):
    """Return a dict of the numbers by which one more thing at a place of a simple order makes a block.

    What is left of a block without that thing is a block of the order, so one thing or all: the new thing stands
    beside a number next to its own, or in a corner.
    """
    barred = {}
    for other in order[max(0, place - 1):place + 1]:
        barred[other] = True
        barred[other + 1] = True
    if place == 0 or place == len(order):
        barred[1] = True
        barred[len(order) + 1] = True
    return barred


def check_simple(order):
    """Raise InvalidOrder for what is no simple order."""
    if not is_simple_order(order):
        raise InvalidOrder(order)


def smaller_simple(order):
    """Return the ascending list of the simple orders of one thing fewer that a simple one shows."""
    check_simple(order)
    return simple_ones_below([order])


def simple_ones_below(orders):
    """Return the ascending list of the simple orders that are left of some orders without one thing."""
    return sorted({less: True for order in orders for less in with_one_less(order) if is_simple(less)})


def is_lone(order):
    """Tell whether an order is simple and shows no simple one of one thing fewer."""
    check_order(order)
    return is_simple(order) and not simple_ones_below([order])


def chain(order):
    """Return the tuple of simple orders that leads from one of four things up to a simple one."""
    check_simple(order)
    down = [order]
    while len(down[-1]) > LEAST:
        down.append(first_below(down[-1]))
    return tuple(down[::-1])


def first_below(order):
    """Return the first simple order of one thing fewer that a simple one shows, of a lone one of two things fewer."""
    smaller = simple_ones_below([order])
    return smaller[0] if smaller else simple_ones_below(with_one_less(order))[0]


def is_chain(told):
    """Tell whether something is a tuple of simple orders that leads up from one of four things."""
    if not isinstance(told, tuple) or len(told) == 0:
        return False
    for order in told:
        if not is_simple_order(order):
            return False
    return len(told[0]) == LEAST and all([is_step(told[at - 1], told[at]) for at in range(1, len(told))])


def is_step(ahead, order):
    """Tell whether an order has one or two things more than the one ahead, and shows it."""
    return 1 <= len(order) - len(ahead) <= 2 and does_show(order, ahead)
