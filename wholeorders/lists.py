"""Lists of patterns, and the orders that show none of them."""

from wholeorders.blocks import parts, skew_parts
from wholeorders.errors import InvalidList
from wholeorders.integers import check_number
from wholeorders.matching import placings_by, plan_of
from wholeorders.merges import merges
from wholeorders.patterns import check_order, does_show, inverse, is_pattern, mirrored, turned
from wholeorders.patterns import with_one_above, with_one_less


def is_list(told):
    """Tell whether something is a tuple of patterns."""
    if not isinstance(told, tuple):
        return False
    for pattern in told:
        if not is_pattern(pattern):
            return False
    return True


def check_list(forbidden):
    """Raise InvalidList for what is no list."""
    if not is_list(forbidden):
        raise InvalidList(forbidden)


def check_lists(one, other):
    """Raise InvalidList for the first of two that is no list."""
    check_list(one)
    check_list(other)


def does_let(forbidden, order):
    """Tell whether an order shows none of a list; neither is checked."""
    for pattern in forbidden:
        if does_show(order, pattern):
            return False
    return True


def lets(forbidden, order):
    """Tell whether an order shows none of a list."""
    check_list(forbidden)
    check_order(order)
    return does_let(forbidden, order)


def ascending(found):
    """Return orders, each once, by length and then as tuples."""
    return sorted({order: True for order in found}, key=by_length)


def by_length(order):
    """Return by what orders of different lengths are sorted."""
    return len(order), order


def least_of(forbidden):
    """Return the least list with the lot of a list, which is not checked."""
    kept = []
    shorter = []
    for pattern in ascending(forbidden):
        # A pattern shows no other one of its own length, so the shorter ones alone are asked.
        if kept and len(kept[-1]) < len(pattern):
            shorter = list(kept)
        if does_let(shorter, pattern):
            kept.append(pattern)
    return tuple(kept)


def least(forbidden):
    """Return the least list with the lot of a list."""
    check_list(forbidden)
    return least_of(forbidden)


def let_ones(forbidden, orders):
    """Return the list of those orders that a list lets; the plans of its patterns are made but once."""
    plans = [plan_of(pattern) for pattern in forbidden]
    return [order for order in orders if not is_barred(plans, order)]


def is_barred(plans, order):
    """Tell whether an order shows the pattern of one of some plans."""
    for plan in plans:
        if placings_by(order, plan, 1):
            return True
    return False


def lies_within(one, other):
    """Tell whether all orders that the one list lets are let by the other one."""
    check_lists(one, other)
    return not let_ones(one, other)


def same(one, other):
    """Tell whether both lists let the same orders."""
    check_lists(one, other)
    return not let_ones(one, other) and not let_ones(other, one)


def parting(one, other):
    """Return the first order, by length and then as tuples, that just one of two lists lets, or None."""
    check_lists(one, other)
    # What just one lets shows a pattern of the other one, which the one lets too: so the first is such a pattern.
    found = ascending(let_ones(one, other) + let_ones(other, one))
    return found[0] if found else None


def met(one, other):
    """Return the least list of the orders that both lists let."""
    check_lists(one, other)
    return least_of(one + other)


def joined(one, other):
    """Return the least list of the orders that at least one of two lists lets."""
    check_lists(one, other)
    found = []
    for pattern in one:
        for second in other:
            found.extend(merges(pattern, second))
    known = {}
    return tuple([order for order in ascending(found) if not any_barred(one, other, with_one_less(order), known)])


def any_barred(one, other, orders, known):
    """Tell whether neither list lets some of the orders; known keeps what was worked out before."""
    for order in orders:
        if order not in known:
            known[order] = not does_let(one, order) and not does_let(other, order)
        if known[order]:
            return True
    return False


def let_of(forbidden, n):
    """Return the ascending list of the orders of n things that are let."""
    check_list(forbidden)
    check_number(n)
    barred = {pattern: True for pattern in forbidden}
    let = {(): True}
    for _ in range(n):
        let = let_above(barred, let)
    return sorted(let)


def let_above(barred, let):
    """Return a dict of the let orders of one thing more than the let ones."""
    grown = {}
    for order in let:
        for more in with_one_above(order):
            if more not in barred and all([less in let for less in with_one_less(more)]):
                grown[more] = True
    return grown


def is_finite(forbidden):
    """Tell whether only finitely many orders are let."""
    check_list(forbidden)
    rising = [pattern for pattern in forbidden if pattern == tuple(range(1, len(pattern) + 1))]
    falling = [pattern for pattern in forbidden if pattern == tuple(range(len(pattern), 0, -1))]
    return len(rising) > 0 and len(falling) > 0


def turned_list(forbidden):
    """Return the least list of the orders that are let, turned about."""
    check_list(forbidden)
    return least_of([turned(pattern) for pattern in forbidden])


def mirrored_list(forbidden):
    """Return the least list of the orders that are let, mirrored."""
    check_list(forbidden)
    return least_of([mirrored(pattern) for pattern in forbidden])


def inverse_list(forbidden):
    """Return the least list of the inverse ones of the orders that are let."""
    check_list(forbidden)
    return least_of([inverse(pattern) for pattern in forbidden])


def is_summed(forbidden):
    """Tell whether each sum of two orders that are let is let."""
    check_list(forbidden)
    # A pattern that is a sum comes of two smaller ones, which a least list lets; any other one lies in one of both.
    return all([len(parts(pattern)) == 1 for pattern in least_of(forbidden)])


def is_skew_summed(forbidden):
    """Tell whether each skew sum of two orders that are let is let."""
    check_list(forbidden)
    return all([len(skew_parts(pattern)) == 1 for pattern in least_of(forbidden)])
