"""How many orders of each class there are, and the sequence of their shapes.

A weight of orders of so many things is a number for each class: how often an order of this class counts. So the
children of a node are found from the left, an order weighing as much as there are ways to go on behind it.
"""

from wholeorders.blocks import inflated, split
from wholeorders.patterns import ranks_of


class Counts:
    """How many orders of 0 to n things there are of each class, of each node, and of each state between its children.

    Of states those numbers of things alone stand in a dict of which there are any: often they are few.
    """

    def __init__(self, merged, n):
        self.merged = merged
        classes = len(merged.signs)
        self.many = [[0] * (n + 1) for _ in range(classes)]
        self.by_node = []
        self.states = []
        for table in merged.tables:
            self.by_node.append([[0] * (n + 1) for _ in range(classes)])
            self.states.append([[{} for _ in row] for row in table])
        for size in range(1, n + 1):
            self.count_of(size)

    def count_of(self, size):
        """Count the orders of so many things, those of fewer being counted."""
        if size == 1 and self.merged.one is not None:
            self.many[self.merged.one][1] = 1
        for index, table in enumerate(self.merged.tables):
            for at in range(len(table) - 1, 0, -1):
                found = self.counted_behind(table[at], self.states[index][at], size)
                if at + 1 == len(table):
                    for one, many in found.items():
                        self.by_node[index][one][size] = many
                        self.many[one][size] += many
                else:
                    self.add_states(index, at + 1, size, found)
        for index, table in enumerate(self.merged.tables):
            found = {}
            for one, after in table[0][0].items():
                found[after] = found.get(after, 0) + self.many[one][size]
            self.add_states(index, 1, size, found)

    def add_states(self, index, at, size, found):
        """Keep how many of so many things there are of the states behind some children."""
        for after, many in found.items():
            if many > 0:
                self.states[index][at][after][size] = many

    def counted_behind(self, table, ahead, size):
        """Return a dict of how many of so many things come to each state or class by one child more."""
        found = {}
        for steps, counted in zip(table, ahead):
            if counted:
                for one, after in steps.items():
                    many = self.many[one]
                    ways = sum([more * many[size - few] for few, more in counted.items()])
                    found[after] = found.get(after, 0) + ways
        return found


def weighed(counted, weights, size):
    """Return the sum of the numbers of orders of so many things of each class, each as often as its weight says."""
    return sum([many[size] * weight for many, weight in zip(counted, weights)])


def ways_behind(counts, index, weights, size):
    """Return, for each child of a node but the first, for each state ahead of it, how many ways on there are.

    They stand in rows by how many things are left; behind the last child there is the weight, if none are left.
    """
    ways = [[[weight] for weight in weights]]
    for row in counts.merged.tables[index][:0:-1]:
        found = []
        for steps in row:
            total = [0] * (size + 1)
            for one, after in steps.items():
                add_product(total, ways[-1][after], counts.many[one])
            found.append(total)
        ways.append(found)
    return ways[::-1]


def add_product(total, one, other):
    """Add to a row, by sizes, the product of two such rows, as far as it goes."""
    for few, many in enumerate(one):
        if many > 0:
            for size in range(few, len(total)):
                total[size] += many * other[size - few]


def with_size(counts, index, ways, ahead, size, left):
    """Return (weight, behind) if the next child has so many things and so many are left behind it.

    Ahead is how many ways lead to each state ahead of that child, the sizes of the children there being known.
    """
    at = len(counts.merged.tables[index]) - len(ways)
    behind = {}
    for state, many in ahead.items():
        for one, after in counts.merged.tables[index][at][state].items():
            if counts.many[one][size] > 0:
                behind[after] = behind.get(after, 0) + many * counts.many[one][size]
    ends = [(many, ways[0][after]) for after, many in behind.items()]
    return sum([many * way[left] for many, way in ends if left < len(way)]), behind


def ways_by_sizes(counts, index, weights, sizes):
    """Return, for each child of a node and behind the last one, how many ways lead on from each state."""
    ways = [weights]
    for row, size in zip(counts.merged.tables[index][::-1], sizes[::-1]):
        ways.append([sum([counts.many[one][size] * ways[-1][after] for one, after in steps.items()]) for steps in row])
    return ways[::-1]


def weights_of_child(counts, steps, ways):
    """Return how much each class weighs for a child, by the ways that lead on behind it."""
    weights = [0] * len(counts.many)
    for one, after in steps.items():
        weights[one] = ways[after]
    return weights


def order_found(counts, weights, size, i):
    """Return (order, class, number left) of the order of so many things that the i-th of all weights falls upon."""
    if size == 1:
        return (1,), counts.merged.one, i
    index = 0
    weight = weighed(counts.by_node[0], weights, size)
    while i >= weight:
        i -= weight
        index += 1
        weight = weighed(counts.by_node[index], weights, size)
    sizes, i = sizes_found(counts, index, weights, size, i)
    ways = ways_by_sizes(counts, index, weights, sizes)
    orders = []
    state = 0
    for at, few in enumerate(sizes):
        steps = counts.merged.tables[index][at][state]
        order, one, i = order_found(counts, weights_of_child(counts, steps, ways[at + 1]), few, i)
        orders.append(order)
        state = steps[one]
    return inflated(counts.merged.nodes[index], orders), state, i


def sizes_found(counts, index, weights, size, i):
    """Return (sizes of the children of a node, number left) for the i-th of all weights of the node."""
    ways = ways_behind(counts, index, weights, size)
    sizes = []
    ahead = {0: 1}
    while ways:
        few = 1
        weight, behind = with_size(counts, index, ways, ahead, few, size - few)
        while i >= weight:
            i -= weight
            few += 1
            weight, behind = with_size(counts, index, ways, ahead, few, size - few)
        sizes.append(few)
        size -= few
        ahead = behind
        ways = ways[1:]
    return sizes, i


def place_found(counts, weights, order):
    """Return (sum of the weights ahead, class) of an order of one or more things, which there must be."""
    if len(order) == 1:
        return 0, counts.merged.one
    node, children = node_of(order)
    index = counts.merged.nodes.index(node)
    sizes = [len(child) for child in children]
    place = sum([weighed(counted, weights, len(order)) for counted in counts.by_node[:index]])
    place += sizes_ahead(counts, index, weights, sizes)
    ways = ways_by_sizes(counts, index, weights, sizes)
    state = 0
    for at, child in enumerate(children):
        steps = counts.merged.tables[index][at][state]
        more, one = place_found(counts, weights_of_child(counts, steps, ways[at + 1]), child)
        place += more
        state = steps[one]
    return place, state


def node_of(order):
    """Return (node, children) of an order of two or more things."""
    kind, head, pieces = split(order)
    if kind == "simple":
        return head, pieces
    return (1, 2) if kind == "sum" else (2, 1), (pieces[0], ranks_of(order[len(pieces[0]):]))


def sizes_ahead(counts, index, weights, sizes):
    """Return the weight of all orders of a node whose children have sizes that stand ahead."""
    left = sum(sizes)
    ways = ways_behind(counts, index, weights, left)
    total = 0
    ahead = {0: 1}
    for size in sizes:
        for few in range(1, size):
            total += with_size(counts, index, ways, ahead, few, left - few)[0]
        left -= size
        ahead = with_size(counts, index, ways, ahead, size, left)[1]
        ways = ways[1:]
    return total
