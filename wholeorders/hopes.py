"""Which rows and states of a node can still come to something that is let.

All orders show one thing: so if something barred comes of one thing for each other child, it comes of all others too.
"""


class Hopes:
    """What comes of one thing for each child of which nothing else is known."""

    def __init__(self, folds, point):
        self.folds = folds
        self.points = [[folds.kept_of_row(index, at, point) for at in range(len(node))]
                       for index, node in enumerate(folds.nodes)]
        self.known = {}

    def ahead(self, index, at):
        """Return the state ahead of a child if all children ahead of it are one thing each, or None."""
        return self.with_points(index, 0, at, self.folds.start_of(index))

    def with_points(self, index, start, end, state):
        """Return the state behind some more children that are one thing each, or None."""
        for at in range(start, end):
            if state is not None:
                state = self.folds.folded(index, at, state, self.points[index][at])
        return state

    def may_be_child(self, index, at, kept):
        """Tell whether something let comes of what is kept of a row as that of a child of a node."""
        ahead = self.ahead(index, at)
        return ahead is not None and self.may_lead(index, at, ahead, kept)

    def may_lead(self, index, at, state, kept):
        """Tell whether something let comes of a state and one more child."""
        found = self.folds.folded(index, at, state, kept)
        return found is not None and (at + 1 == len(self.points[index]) or self.may_go_on(index, at + 1, found))

    def may_go_on(self, index, at, state):
        """Tell whether something let comes of a state ahead of a child; keep it."""
        key = (index, at, state)
        if key not in self.known:
            self.known[key] = self.with_points(index, at, len(self.points[index]), state) is not None
        return self.known[key]
