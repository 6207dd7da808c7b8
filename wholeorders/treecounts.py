"""How many orders a list with few simple orders lets, or of how many of them a fact is true, by their shapes."""

from wholeorders.errors import InvalidNumber, InvalidPair, NotLet
from wholeorders.facts import TRUE_OF_ALL, check_fact, does_hold
from wholeorders.growths import nodes_of
from wholeorders.integers import check_number
from wholeorders.lists import check_list, does_let, least_of
from wholeorders.lots import merged_of
from wholeorders.patterns import check_order
from wholeorders.ranks import check_tape, number_drawn
from wholeorders.roads import MOST_SIMPLE, few_paper
from wholeorders.weights import Counts, order_found, place_found, weighed


def check_asked(forbidden, fact):
    """Raise InvalidList for what is no list, InvalidFact for what is neither a fact nor None."""
    check_list(forbidden)
    if fact is not None:
        check_fact(fact)


def counts_of(forbidden, fact, n):
    """Return the counts by shapes of a list and a fact or None, up to n things; raise what `simples` does."""
    orders = few_paper(forbidden, MOST_SIMPLE)[1]
    nodes = nodes_of(forbidden, [order for order in orders if len(order) <= n])
    return Counts(merged_of(least_of(forbidden), TRUE_OF_ALL if fact is None else fact, nodes, n), n)


def how_many(counts, fact, n):
    """Return the number of the orders of n things of which the fact is true."""
    if n == 0:
        return 1 if is_meant((), fact, ()) else 0
    return weighed(counts.many, weights_of(counts), n)


def weights_of(counts):
    """Return 1 for each class of which the fact is true, else 0."""
    return [1 if holds else 0 for holds in counts.merged.signs]


def is_meant(forbidden, fact, order):
    """Tell whether an order is let and a fact or None is true of it."""
    return does_let(forbidden, order) and (fact is None or does_hold(fact, order))


def tree_counts(forbidden, fact, n):
    """Return the list of how many orders of 0 to n things are let, and have the fact true of them."""
    check_asked(forbidden, fact)
    check_number(n)
    counts = counts_of(forbidden, fact, n)
    return [how_many(counts, fact, size) for size in range(n + 1)]


def shape_nth(forbidden, fact, n, i):
    """Return the i-th order of n things, in the sequence of shapes."""
    check_asked(forbidden, fact)
    check_number(n)
    check_number(i)
    counts = counts_of(forbidden, fact, n)
    if i >= how_many(counts, fact, n):
        raise InvalidNumber(i)
    return order_by_shapes(counts, n, i)


def order_by_shapes(counts, n, i):
    """Return the i-th order of n things; there must be one."""
    return order_found(counts, weights_of(counts), n, i)[0] if n > 0 else ()


def shape_place(forbidden, fact, order):
    """Return the place of an order among those of as many things, in the sequence of shapes."""
    check_asked(forbidden, fact)
    check_order(order)
    counts = counts_of(forbidden, fact, len(order))
    return place_in(counts, forbidden, fact, order)


def place_in(counts, forbidden, fact, order):
    """Return the place of an order; raise NotLet for one that is not meant."""
    if not is_meant(forbidden, fact, order):
        raise NotLet(order)
    return place_found(counts, weights_of(counts), order)[0] if order else 0


def shape_next(forbidden, fact, order):
    """Return the order behind one, of as many things, in the sequence of shapes, or None."""
    check_asked(forbidden, fact)
    check_order(order)
    counts = counts_of(forbidden, fact, len(order))
    i = place_in(counts, forbidden, fact, order) + 1
    return order_by_shapes(counts, len(order), i) if i < how_many(counts, fact, len(order)) else None


def shape_drawn(forbidden, fact, n, tape):
    """Return (order, read): the order that is drawn from a tape, and how many bits were read, or None."""
    check_asked(forbidden, fact)
    check_number(n)
    check_tape(tape)
    counts = counts_of(forbidden, fact, n)
    many = how_many(counts, fact, n)
    if many == 0:
        raise InvalidPair((n, 0))
    drawing = number_drawn(many, tape)
    return None if drawing is None else (order_by_shapes(counts, n, drawing[0]), drawing[1])
