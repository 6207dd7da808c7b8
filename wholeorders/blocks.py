"""Sums, blocks and simple orders, and the trees and shapes of how an order is put together."""

from wholeorders.errors import InvalidOrder, InvalidPair
from wholeorders.patterns import check_order, check_things, is_order, is_pattern, ranks_of


def summed(one, other):
    """Return the sum of two orders."""
    check_order(one)
    check_order(other)
    return one + raised(other, len(one))


def skew_summed(one, other):
    """Return the skew sum of two orders."""
    check_order(one)
    check_order(other)
    return raised(one, len(other)) + other


def raised(order, by):
    """Return the numbers of an order, each greater by a number."""
    return tuple([number + by for number in order])


def parts(order):
    """Return the tuple of the orders in no parts whose sum an order is."""
    check_order(order)
    found = []
    start = 0
    top = 0
    for place, number in enumerate(order):
        top = max(top, number)
        if top == place + 1:
            found.append(raised(order[start:top], -start))
            start = top
    return tuple(found)


def skew_parts(order):
    """Return the tuple of the orders in no skew parts whose skew sum an order is."""
    check_order(order)
    return tuple([part[::-1] for part in parts(order[::-1])[::-1]])


def blocks(order):
    """Return the ascending list of the blocks of an order, as (from, to)."""
    check_order(order)
    found = []
    for start in range(len(order)):
        for end in block_ends(order, start):
            found.append((start, end))
    return found


def block_ends(order, start):
    """Return the ascending list of where the blocks end that begin at a place."""
    ends = []
    low = high = order[start]
    for place in range(start, len(order)):
        low = min(low, order[place])
        high = max(high, order[place])
        if high - low == place - start:
            ends.append(place + 1)
    return ends


def is_simple(order):
    """Tell whether an order has four things or more, and no blocks but those of one thing and the whole."""
    check_order(order)
    return len(order) >= 4 and not has_inner_block(order)


def has_inner_block(order):
    """Tell whether an order has a block of two things or more that is not the whole."""
    for start in range(len(order)):
        low = high = order[start]
        for place in range(start + 1, min(len(order), start + len(order) - 1)):
            low = min(low, order[place])
            high = max(high, order[place])
            if high - low == place - start:
                return True
    return False


def put_together(order, orders):
    """Return the order put together of an order and a tuple of as many, none ()."""
    check_order(order)
    for told in orders:
        if not is_pattern(told):
            raise InvalidOrder(told)
    if len(order) != len(orders):
        raise InvalidPair((len(order), len(orders)))
    return inflated(order, orders)


def inflated(order, orders):
    """Return the order put together of an order and as many, which are not checked."""
    lengths = [0] * len(order)
    for place, number in enumerate(order):
        lengths[number - 1] = len(orders[place])
    bases = [0]
    for length in lengths:
        bases.append(bases[-1] + length)
    numbers = []
    for place, number in enumerate(order):
        numbers.extend(raised(orders[place], bases[number - 1]))
    return tuple(numbers)


def simple_split(order):
    """Return (simple order, tuple of the orders of its blocks) of two things or more in no parts, no skew parts."""
    heads = []
    inner = []
    start = 0
    while start < len(order):
        # The greatest blocks but the whole do not overlap, so the first one is followed by the next one.
        end = [end for end in block_ends(order, start) if end - start < len(order)][-1]
        heads.append(order[start])
        inner.append(ranks_of(order[start:end]))
        start = end
    return ranks_of(heads), tuple(inner)


def split(order):
    """Return (kind, what leads it, tuple of orders) of an order of one or more things, as trees have it."""
    if len(order) == 1:
        return "one", (), ()
    pieces = parts(order)
    if len(pieces) > 1:
        return "sum", (), pieces
    pieces = skew_parts(order)
    if len(pieces) > 1:
        return "skew", (), pieces
    head, pieces = simple_split(order)
    return "simple", head, pieces


def tree(order):
    """Return the tree of an order of one or more things."""
    check_things(order)
    kind, head, pieces = split(order)
    if kind == "one":
        return ("one",)
    trees = []
    for piece in pieces:
        trees.append(tree(piece))
    if kind == "simple":
        return kind, head, tuple(trees)
    return kind, tuple(trees)


def is_tree(told):
    """Tell whether something is the tree of an order."""
    if not isinstance(told, tuple) or len(told) == 0:
        return False
    kind = told[0]
    if kind == "simple":
        return len(told) == 3 and is_simple_order(told[1]) and are_trees(told[2], kind, len(told[1]))
    if kind == "sum" or kind == "skew":
        return len(told) == 2 and isinstance(told[1], tuple) and are_trees(told[1], kind, max(2, len(told[1])))
    return kind == "one" and len(told) == 1


def are_trees(told, kind, many):
    """Tell whether something is a tuple of so many trees, none of a sum straight in a sum, of a skew one in such."""
    if not isinstance(told, tuple) or len(told) != many:
        return False
    for inner in told:
        if not is_tree(inner) or (inner[0] == kind and kind != "simple"):
            return False
    return True


def is_simple_order(told):
    """Tell whether something is an order, and simple."""
    return is_order(told) and is_simple(told)


def from_tree(tree):
    """Return the order with a tree."""
    if not is_tree(tree):
        raise InvalidPair(tree)
    return grown(tree)


def grown(told):
    """Return the order with a tree, which is not checked."""
    if told[0] == "one":
        return (1,)
    inner = []
    for one in told[-1]:
        inner.append(grown(one))
    if told[0] == "simple":
        return inflated(told[1], inner)
    numbers = tuple(range(1, len(inner) + 1))
    return inflated(numbers if told[0] == "sum" else numbers[::-1], inner)


def shape(order):
    """Return the shape of an order of one or more things."""
    check_things(order)
    return shape_of(order)


def shape_of(order):
    """Return the shape of an order of one or more things, which is not checked."""
    kind, head, pieces = split(order)
    if kind == "one":
        return ("one",)
    if kind == "simple":
        shapes = []
        for piece in pieces:
            shapes.append(shape_of(piece))
        return kind, head, tuple(shapes)
    first = pieces[0]
    rest = order[len(first):]
    return kind, shape_of(first), shape_of(ranks_of(rest))


def is_shape(told):
    """Tell whether something is the shape of an order."""
    if not isinstance(told, tuple) or len(told) == 0:
        return False
    kind = told[0]
    if kind == "simple":
        return len(told) == 3 and is_simple_order(told[1]) and are_shapes(told[2], len(told[1]))
    if kind == "sum" or kind == "skew":
        return len(told) == 3 and is_shape(told[1]) and told[1][0] != kind and is_shape(told[2])
    return kind == "one" and len(told) == 1


def are_shapes(told, many):
    """Tell whether something is a tuple of so many shapes."""
    if not isinstance(told, tuple) or len(told) != many:
        return False
    for inner in told:
        if not is_shape(inner):
            return False
    return True


def from_shape(shape):
    """Return the order with a shape."""
    if not is_shape(shape):
        raise InvalidPair(shape)
    return shaped(shape)


def shaped(told):
    """Return the order with a shape, which is not checked."""
    if told[0] == "one":
        return (1,)
    if told[0] == "simple":
        inner = []
        for one in told[2]:
            inner.append(shaped(one))
        return inflated(told[1], inner)
    first = shaped(told[1])
    rest = shaped(told[2])
    return inflated((1, 2) if told[0] == "sum" else (2, 1), (first, rest))
