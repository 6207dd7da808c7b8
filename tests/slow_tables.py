"""Slow ways to tables, papers of facts and the sequence of shapes, straight from the document."""

import functools
from itertools import product

from tests.helpers import NOTHING, RISING, STAIRS, TWO, simple_to, slow_blocks, slow_lets, slow_pattern
from tests.slow_facts import EVEN, slow_kind, slow_traits
from wholeorders.lists import let_of
from wholeorders.traits import is_let, is_traits, is_true_of, put_traits

ONE_ALONE = ((1, 2), (2, 1))
CROSSED = ((2, 4, 1, 3), (3, 1, 4, 2))
ELEVEN = ((1, 2, 3), (4, 3, 2, 1))
NO_SIMPLE_LISTS = (NOTHING, ONE_ALONE, RISING, ((1, 2),), TWO, ((2, 3, 1),), ((1, 3, 2), (4, 3, 2, 1)))
TABLE_LISTS = NO_SIMPLE_LISTS + (((1, 2, 3), (3, 2, 1)), ((3, 2, 1), (3, 1, 2, 4)))
TABLE_FACTS = (
    EVEN, ("shows", (2, 1), (0,)), ("not", ("shows", (1, 3, 2), (-1, 1))), ("rest", "turns", 2, 0),
    ("least", "tops", 1), ("least", "things", 0), ("not", ("least", "things", 5)),
    ("either", ("not", ("shows", (2, 1), ())), ("least", "drops", 1)),
    ("either", ("not", ("least", "drops", 2)), ("least", "turns", 3)),
    ("both", ("rest", "parts", 1, 0), ("not", ("both", ("shows", (2, 1), (-1, 0)), ("shows", (2, 1), (-1, 0))))))


@functools.lru_cache(maxsize=None)
def let_to(forbidden, n):
    """Return the orders of at most n things that are let."""
    return [order for many in range(n + 1) for order in let_of(forbidden, many)]


def slow_nodes(forbidden, n):
    """Return the nodes of at most n things of a list."""
    return [node for node in ((1, 2), (2, 1)) if slow_lets(forbidden, node)] + [
        node for node in simple_to(n) if slow_lets(forbidden, node)]


def all_put(forbidden, fact, node, rows):
    """Return what is put together of a node and all rows that may be those of its children."""
    kind = {(1, 2): 1, (2, 1): 2}.get(node, -1)
    for chosen in product(rows, repeat=len(node)):
        if chosen[0][0] != kind:
            yield put_traits(forbidden, fact, node, chosen)


def slow_table(forbidden, fact, nodes):
    """Return the table of a list by putting together again and again."""
    rows = {slow_traits(forbidden, fact, (1,))} if slow_lets(forbidden, (1,)) else set()
    while True:
        found = {more for node in nodes for more in all_put(forbidden, fact, node, sorted(rows))}
        found = rows | {more for more in found if is_let(forbidden, fact, more)}
        if found == rows:
            return tuple(sorted(rows))
        rows = found


def slow_closed(forbidden, fact, nodes, rows):
    """Tell whether rows are those of a paper of a fact."""
    for row in rows:
        if not is_traits(forbidden, fact, row):
            return False
        if not is_let(forbidden, fact, row) or not is_true_of(forbidden, fact, row):
            return False
    if list(rows) != sorted(set(rows)):
        return False
    if slow_lets(forbidden, (1,)) and slow_traits(forbidden, fact, (1,)) not in rows:
        return False
    for node in nodes:
        for more in all_put(forbidden, fact, node, rows):
            if is_let(forbidden, fact, more) and more not in rows:
                return False
    return True


def slow_split(order):
    """Return (node, children) of an order of two or more things."""
    kind = slow_kind(order)
    blocks = slow_blocks(order)
    if kind in (1, 2):
        end = min(end for start, end in blocks if start == 0 and (1 if kind == 1 else len(order)) in order[:end])
        return ((1, 2), (2, 1))[kind - 1], (slow_pattern(order[:end]), slow_pattern(order[end:]))
    children = []
    while sum(map(len, children)) < len(order):
        begun = sum(map(len, children))
        end = max(end for start, end in blocks if start == begun and (start, end) != (0, len(order)))
        children.append(order[begun:end])
    return slow_pattern([child[0] for child in children]), tuple(slow_pattern(child) for child in children)


def place_in_shapes(order):
    """Return by what orders of as many things are sorted in the sequence of shapes."""
    if len(order) < 2:
        return ()
    node, children = slow_split(order)
    return (len(node), node), tuple(map(len, children)), tuple(map(place_in_shapes, children))


TABLE_PAIRS = tuple((forbidden, fact) for forbidden in TABLE_LISTS for fact in TABLE_FACTS) + (
    (ELEVEN, EVEN), (ELEVEN, ("not", ("shows", (1, 3, 2), (-1, 1)))), (CROSSED, EVEN), (CROSSED, ("rest", "drops", 1, 0)),
    (CROSSED, ("not", ("least", "turns", 2))), (STAIRS + ((2, 4, 1, 5, 3),), EVEN),
    (STAIRS + ((2, 4, 1, 5, 3),), ("least", "tops", 1)))
