"""Traits of orders: all on which it hangs what is put together of them, and what is true of that."""

from wholeorders.asked import holds_by, is_let_row, is_of_form, traits_of
from wholeorders.blocks import is_simple_order
from wholeorders.errors import InvalidNode, InvalidPair, InvalidPaper
from wholeorders.facts import check_fact
from wholeorders.folds import NODES, put_rows
from wholeorders.integers import are_integers
from wholeorders.lists import check_list
from wholeorders.patterns import check_things


def traits(forbidden, fact, order):
    """Return the traits of an order of one or more things, for a list and a fact."""
    check_asked(forbidden, fact)
    check_things(order)
    return traits_of(forbidden, fact, order)


def check_asked(forbidden, fact):
    """Raise InvalidList for what is no list, InvalidFact for what is no fact."""
    check_list(forbidden)
    check_fact(fact)


def is_traits(forbidden, fact, told):
    """Tell whether something has the form of traits."""
    check_asked(forbidden, fact)
    return is_of_form(forbidden, fact, told)


def check_row(forbidden, fact, row):
    """Raise InvalidPaper for what has not the form of traits."""
    if not is_of_form(forbidden, fact, row):
        raise InvalidPaper(row)


def put_traits(forbidden, fact, node, rows):
    """Return what is put together of a node and a tuple of things of the form of traits."""
    check_asked(forbidden, fact)
    if not is_node(node):
        raise InvalidNode(node)
    for row in rows:
        check_row(forbidden, fact, row)
    if len(node) != len(rows):
        raise InvalidPair((len(node), len(rows)))
    return put_rows(forbidden, fact, node, rows)


def is_node(told):
    """Tell whether something is (1, 2), (2, 1) or a simple order."""
    return is_simple_order(told) or (are_integers(told) and told in NODES)


def is_let(forbidden, fact, row):
    """Tell whether no piece of something of the form of traits is a whole pattern of the list."""
    check_asked(forbidden, fact)
    check_row(forbidden, fact, row)
    return is_let_row(forbidden, row)


def is_true_of(forbidden, fact, row):
    """Tell whether a fact is true by the traits."""
    check_asked(forbidden, fact)
    check_row(forbidden, fact, row)
    return holds_by(forbidden, fact, row)
