"""The classes of all orders that a list lets, told apart by whether a fact is true of them, in two steps.

First the rows of pieces alone are merged, then those of their classes and the tallies: so few rows are met on the way.
"""

from wholeorders.asked import hooked_asked, holds_with, measures_asked, shown_by, traits_of
from wholeorders.blocks import is_simple
from wholeorders.folds import Folds, TraitFolds, tallies_of, tally_rules, tally_values
from wholeorders.growths import Growth
from wholeorders.lists import does_let
from wholeorders.mergers import Merged


class Tabled:
    """The putting together of classes at a node, by its table."""

    def __init__(self, table):
        self.table = table

    def first(self):
        """Return the state ahead of all children."""
        return 0

    def kept(self, at, one):
        """Return what hangs on the class of a child, all children alike."""
        return one

    def led_on(self, at, state, one):
        """Return the state behind one more child of a class, or None if nothing that is let comes of it."""
        return self.table[at][state].get(one)

    def together(self, state):
        """Return the class of all children together."""
        return state


def barring(forbidden):
    """Return those patterns of a least list that may be shown by what is put together of let nodes and let orders.

    A simple pattern, or one of two things, is shown there only if the node or one of the orders shows it.
    """
    return tuple([pattern for pattern in forbidden if len(pattern) != 2 and not is_simple(pattern)])


def merged_of(forbidden, fact, nodes, n):
    """Return the classes, by whether the fact is true, of the let orders of up to n things, of all if n is None.

    The list is a least one, the nodes are all that it lets and that have so few things.
    """
    forbidden = barring(forbidden)
    shown = merged_by_pieces(forbidden, fact, nodes, n)
    measures = measures_asked(fact)
    tallies = tally_values(measures, traits_of(forbidden, fact, (1,))[2])
    rules = [[Tabled(table)] + tally_rules(measures, node) for table, node in zip(shown.tables, nodes)]
    folds = Folds(nodes, rules, 1 + len(tallies))
    growth = Growth(folds, True)
    if shown.one is not None:
        growth.begin(folds.numbered(0, [shown.one] + tallies))
    growth.go_on(n)
    signs = []
    for row in growth.rows:
        values = folds.values_of(row)
        signs.append(holds_with(fact, shown.signs[values[0]], tallies_of(measures, values[1:])))
    return Merged(growth, signs)


def merged_by_pieces(forbidden, fact, nodes, n):
    """Return the classes, by which hooked patterns of the fact are shown, of the let orders of up to n things."""
    folds = TraitFolds(nodes, hooked_asked(forbidden, fact), (), len(forbidden), True)
    growth = Growth(folds, True)
    if does_let(forbidden, (1,)):
        kind, pieces, _ = traits_of(forbidden, fact, (1,))
        growth.begin(folds.row_of((kind, pieces, ())))
    growth.go_on(n)
    return Merged(growth, [shown_by(forbidden, fact, folds.traits_of(row)) for row in growth.rows])
