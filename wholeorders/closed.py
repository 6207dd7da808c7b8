"""Lots that are closed: what is put together of let orders is let."""

from wholeorders.blocks import block_ends, is_simple
from wholeorders.lists import check_list, does_let, least_of
from wholeorders.patterns import ranks_of, with_one_less
from wholeorders.roads import few_paper
from wholeorders.steps import LEAST, are_all_let, simple_candidates

PAIRS = ((1, 2), (2, 1))


def is_closed(forbidden):
    """Tell whether each order put together of let ones is let."""
    check_list(forbidden)
    return not loose_patterns(forbidden)


def loose_patterns(forbidden):
    """Return the list of those patterns of the least list that are put together of smaller ones; it is not checked."""
    return [pattern for pattern in least_of(forbidden) if len(pattern) > 2 and not is_simple(pattern)]


def closure(forbidden, *, most=300):
    """Return the least list of the orders that come of let ones by putting together again and again."""
    orders, n = few_paper(forbidden, most)[1:]
    if not does_let(forbidden, (1,)):
        return ((1,),)
    barred = tuple([pair for pair in PAIRS if not does_let(forbidden, pair)])
    # A simple order shows both pairs.
    return barred if barred else barred_simples(orders, n)


def barred_simples(orders, n):
    """Return the tuple of the simple orders, of at most n + 1 things, that are not let and show no other such.

    If a simple order shows one of two things fewer, or of less, it shows a simple one of just two things more than
    this one, and which shows it (Ehrenfeucht, Rozenberg; Schmerl, Trotter). So if all simple ones of one and of two
    things fewer are let, all smaller ones are.
    """
    let = {order: True for order in orders}
    found = []
    for more in range(LEAST, n + 2):
        ahead = [order for order in orders if len(order) == more - 1]
        for order in sorted(simple_candidates(ahead, more)):
            if order not in let and are_let_below(let, order):
                found.append(order)
    return tuple(found)


def are_let_below(let, order):
    """Tell whether all simple orders of one and of two things fewer that an order shows are let."""
    smaller = {less: True for less in with_one_less(order)}
    if not are_all_let(let, smaller):
        return False
    return are_all_let(let, {least: True for less in smaller for least in with_one_less(less)})


def opened(forbidden):
    """Return None if the lot is closed, else the first (order, orders), let ones, that put together are not let."""
    check_list(forbidden)
    loose = loose_patterns(forbidden)
    if not loose:
        return None
    # What is put together of let ones and not let shows such a pattern, so the smallest are the shortest of these.
    fewest = len(loose[0])
    found = []
    for pattern in loose:
        if len(pattern) == fewest:
            found.extend(takings_apart(pattern))
    return min(found)


def takings_apart(order):
    """Return the list of all (order, orders) that make an order, but those of one block or of blocks of one thing."""
    found = []
    for row in rows_of_blocks(order):
        if 1 < len(row) < len(order):
            heads = ranks_of([order[start] for start, _ in row])
            found.append((heads, tuple([ranks_of(order[start:end]) for start, end in row])))
    return found


def rows_of_blocks(order):
    """Return the list of all tuples of blocks, one behind the other, that make up an order."""
    ends = [block_ends(order, start) for start in range(len(order))]
    found = []
    unfinished = [()]
    while unfinished:
        row = unfinished.pop()
        start = row[-1][1] if row else 0
        if start == len(order):
            found.append(row)
        else:
            unfinished.extend([row + ((start, end),) for end in ends[start]])
    return found
