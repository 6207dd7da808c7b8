"""How the measures of the children of a node add up; a tally is (rest, few), by a modulus and up to a number."""


def added(one, other, modulus, number):
    """Return the tally of a sum."""
    return (one[0] + other[0]) % modulus, min(one[1] + other[1], number)


def multiplied(one, other, modulus, number):
    """Return the tally of a product."""
    return one[0] * other[0] % modulus, min(one[1] * other[1], number)


class Sums:
    """The sum of one measure, but turns, over the children of one node."""

    def __init__(self, name, modulus, number, node):
        self.modulus = modulus
        self.number = number
        self.extra = 0
        if name == "drops":
            self.extra = len([at for at in range(1, len(node)) if node[at - 1] > node[at]])
        if name == "parts" and node != (1, 2):
            self.extra = 1
        self.does_count = [True] * len(node)
        if name == "parts":
            self.does_count = [node == (1, 2)] * len(node)
        if name == "tops":
            self.does_count = [entry == max(node[:at + 1]) for at, entry in enumerate(node)]

    def first(self):
        """Return the state ahead of all children: what the node itself brings."""
        return self.extra % self.modulus, min(self.extra, self.number)

    def kept(self, at, tally):
        """Return what hangs on the tally of a child."""
        return tally if self.does_count[at] else (0, 0)

    def led_on(self, at, state, tally):
        """Return the state behind one more child with its tally."""
        return added(state, self.kept(at, tally), self.modulus, self.number)

    def together(self, state):
        """Return the tally of all children together."""
        return state


class Turns:
    """The sums of things and of turns over the children of one node: each pair of tallies is (things, turns)."""

    def __init__(self, things, turns, node):
        self.things = things
        self.turns = turns
        self.node = node

    def first(self):
        """Return the state ahead of all children: both sums, and for each child the things ahead that are above."""
        return (0, 0), (0, 0), ((0, 0),) * len(self.node)

    def kept(self, at, pair):
        """Return what hangs on the tallies of a child, all children alike."""
        return pair

    def led_on(self, at, state, pair):
        """Return the state behind one more child with both tallies."""
        things, turns, above = state
        between = multiplied(above[0], pair[0], self.turns[0], self.turns[1])
        inside = added(turns, pair[1], self.turns[0], self.turns[1])
        raised = []
        for tally, number in zip(above[1:], self.node[at + 1:]):
            more = pair[0] if number < self.node[at] else (0, 0)
            raised.append(added(tally, more, self.things[0], self.things[1]))
        return (added(things, pair[0], self.things[0], self.things[1]),
                added(inside, between, self.turns[0], self.turns[1]), tuple(raised))

    def together(self, state):
        """Return both tallies of all children together."""
        return state[:2]
