"""Bridges between words and shapes: both count the same orders, in sequences of their own."""

from wholeorders.blocks import is_shape, shape_of, shaped
from wholeorders.counts import counts
from wholeorders.errors import InvalidPair, InvalidWord
from wholeorders.integers import check_number
from wholeorders.machines import check_stopping_list
from wholeorders.ranks import how_many_let, order_at, ranking_of
from wholeorders.slots import led_form, whole_word
from wholeorders.treecounts import counts_of, order_by_shapes, tree_counts


def both_counts(forbidden, n):
    """Return (counts by words, counts by shapes): the lists of how many orders of 0 to n things are let."""
    return counts(forbidden, n), tree_counts(forbidden, None, n)


def first_unlike(forbidden, n):
    """Return the first i at which the i-th orders of n things by words and by shapes are unlike, or None."""
    check_stopping_list(forbidden)
    check_number(n)
    shapes = counts_of(forbidden, None, n)
    ranking = ranking_of(forbidden, n)
    for i in range(how_many_let(ranking, n)):
        if order_at(ranking, n, i) != order_by_shapes(shapes, n, i):
            return i
    return None


def word_of_shape(shape):
    """Return the whole word of the order with a shape."""
    if not is_shape(shape):
        raise InvalidPair(shape)
    return whole_word(shaped(shape))


def shape_of_word(word):
    """Return the shape of the order with a whole word."""
    form = led_form(word)
    if form is None or 0 in form:
        raise InvalidWord(word)
    return shape_of(form)
