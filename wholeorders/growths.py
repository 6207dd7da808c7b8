"""The rows of all orders that are let, each with an order of fewest things.

Orders of fewer things come first, so what is met first comes of fewest. Each row is put together, as one more child,
with each state between children that is met, once: as soon as both are there.
"""

from wholeorders.asked import hooked_asked, measures_asked, traits_of
from wholeorders.blocks import inflated
from wholeorders.folds import NODES, TraitFolds
from wholeorders.hopes import Hopes
from wholeorders.lists import does_let


def nodes_of(forbidden, simple):
    """Return the list of the nodes of a list: (1, 2), (2, 1), each if it is let, and the simple orders that are let."""
    return [node for node in NODES if does_let(forbidden, node)] + list(simple)


def growth_of(forbidden, fact, simple):
    """Return the growth of the rows of a list and a fact, in which one thing alone waits, if it is let."""
    nodes = nodes_of(forbidden, simple)
    folds = TraitFolds(nodes, hooked_asked(forbidden, fact), measures_asked(fact), len(forbidden), False)
    growth = Growth(folds, False)
    if does_let(forbidden, (1,)):
        growth.begin(folds.row_of(traits_of(forbidden, fact, (1,))))
    return growth


class Growth:
    """All rows and states that were met, and those that wait, by how many things they have."""

    def __init__(self, folds, keeps_steps):
        self.folds = folds
        self.keeps_steps = keeps_steps
        self.places = [(index, at) for index, node in enumerate(folds.nodes) for at in range(len(node))]
        self.rows = {}
        self.states = {place: {} for place in self.places}
        self.kept_met = {place: {} for place in self.places}
        self.kept_of_rows = {place: {} for place in self.places}
        self.steps_met = {place: {} for place in self.places}
        self.waiting = {}
        self.hopes = None

    def begin(self, row):
        """Begin with the row of one thing and the states ahead of all children."""
        self.hopes = Hopes(self.folds, row)
        for index in range(len(self.folds.nodes)):
            self.states[(index, 0)][self.folds.start_of(index)] = ()
        self.waiting[1] = {(None, row): (None, ((1,),))}

    def go_on(self, most):
        """Take all that waits of the fewest things, and so on, but nothing of more things than most, if it is told."""
        while self.waiting and (most is None or min(self.waiting) <= most):
            self.take_fewest()

    def take_fewest(self):
        """Take all that waits of the fewest things."""
        fewest = self.waiting.pop(min(self.waiting))
        for (place, met), (node, orders) in list(fewest.items()):
            if place is not None:
                self.take_state(place, met, orders)
            elif met not in self.rows:
                self.take_row(met, orders[0] if node is None else inflated(node, orders))

    def take_row(self, row, order):
        """Take a row that is met for the first time, with its order, and put it together with all states."""
        self.rows[row] = order
        for place in self.places:
            index, at = place
            if at > 0 or self.folds.may_begin(index, row):
                kept = self.folds.kept_of_row(index, at, row)
                if kept in self.kept_met[place]:
                    self.kept_of_rows[place][row] = kept
                elif self.hopes.may_be_child(index, at, kept):
                    self.kept_of_rows[place][row] = kept
                    self.take_kept(place, kept, order)

    def take_kept(self, place, kept, order):
        """Take what is kept of a row for a child, and put it together with all states."""
        self.kept_met[place][kept] = order
        for state, orders in self.states[place].items():
            self.meet(place, state, kept, orders + (order,))

    def take_state(self, place, state, orders):
        """Take a state between children, if it is met for the first time, and put it together with all rows."""
        if state in self.states[place]:
            return
        self.states[place][state] = orders
        for kept, order in self.kept_met[place].items():
            self.meet(place, state, kept, orders + (order,))

    def meet(self, place, state, kept, orders):
        """Let what a state and one more child lead to wait, unless it is barred or known."""
        index, at = place
        found = self.folds.folded(index, at, state, kept)
        if found is None:
            return
        node = self.folds.nodes[index]
        after = None if at + 1 == len(node) else (index, at + 1)
        if after is not None and not self.hopes.may_go_on(index, at + 1, found):
            return
        if self.keeps_steps:
            self.steps_met[place][(state, kept)] = found
        if found in (self.rows if after is None else self.states[after]):
            return
        size = sum([len(order) for order in orders])
        if size not in self.waiting:
            self.waiting[size] = {}
        if (after, found) not in self.waiting[size]:
            self.waiting[size][(after, found)] = (node, orders)
