"""The putting together of traits, child by child, in numbers.

What counts is taken apart into strands: one for each hooked pattern, one for each measure (things and turns are one,
if turns count). A row is a tuple of numbers, its kind and one for the value of each strand; so is a state between two
children of a node. What leads from one to the next is worked out but once for each strand and kept.
"""

from wholeorders.asked import hooked_asked, measures_asked
from wholeorders.dealings import Dealing
from wholeorders.tallies import Sums, Turns

NODES = ((1, 2), (2, 1))


class Names:
    """Numbers for values, from 0 on, as they are met."""

    def __init__(self):
        self.told = []
        self.numbers = {}

    def number_of(self, value):
        """Return the number of a value."""
        if value not in self.numbers:
            self.numbers[value] = len(self.told)
            self.told.append(value)
        return self.numbers[value]


class Strand:
    """What one strand of the children of one node leads to, in numbers; None stands behind what is barred."""

    def __init__(self, rule, naming, size):
        self.rule = rule
        self.naming = naming
        self.size = size
        self.states = Names()
        self.start = self.states.number_of(rule.first())
        self.kept_known = {}
        self.steps_known = {}

    def kept(self, at, number):
        """Return the number of what hangs on a value of a child."""
        if (at, number) not in self.kept_known:
            self.kept_known[(at, number)] = self.naming.number_of(self.rule.kept(at, self.naming.told[number]))
        return self.kept_known[(at, number)]

    def worked_out(self, at, state, number):
        """Return the state behind one more child, or the value of all behind the last one; keep it."""
        found = self.rule.led_on(at, self.states.told[state], self.naming.told[number])
        if found is not None:
            is_last = at + 1 == self.size
            found = self.naming.number_of(self.rule.together(found)) if is_last else self.states.number_of(found)
        self.steps_known[(at, state, number)] = found
        return found


class Folds:
    """The putting together of rows of so many strands at some nodes, for each of which the rules are handed in."""

    def __init__(self, nodes, rules, many):
        self.nodes = nodes
        self.namings = [Names() for _ in range(many)]
        self.strands = []
        for node, row in zip(nodes, rules):
            self.strands.append([Strand(rule, naming, len(node)) for rule, naming in zip(row, self.namings)])

    def numbered(self, kind, values):
        """Return the row, in numbers, of a kind and the values of all strands."""
        return (kind,) + tuple([naming.number_of(value) for naming, value in zip(self.namings, values)])

    def values_of(self, row):
        """Return the list of the values of all strands of a row."""
        return [naming.told[number] for naming, number in zip(self.namings, row[1:])]

    def start_of(self, index):
        """Return the state ahead of all children of the node with an index."""
        return tuple([strand.start for strand in self.strands[index]])

    def kept_of_row(self, index, at, row):
        """Return what hangs on a row if it is that of a child of a node."""
        return tuple([strand.kept(at, number) for strand, number in zip(self.strands[index], row[1:])])

    def folded(self, index, at, state, kept):
        """Return the state behind one more child of a node, behind the last one a row, or None if it is barred."""
        found = []
        for strand, one, number in zip(self.strands[index], state, kept):
            key = (at, one, number)
            step = strand.steps_known[key] if key in strand.steps_known else strand.worked_out(at, one, number)
            if step is None:
                return None
            found.append(step)
        return tuple(found) if at + 1 < len(self.nodes[index]) else (self.kind(index),) + tuple(found)

    def kind(self, index):
        """Return the kind of what is put together of a node."""
        return NODES.index(self.nodes[index]) + 1 if self.nodes[index] in NODES else 3

    def may_begin(self, index, row):
        """Tell whether a row may be that of the first child of a node."""
        return self.nodes[index] not in NODES or row[0] != self.kind(index)


class TraitFolds(Folds):
    """The putting together of traits, of hooked patterns, some of them barred, and measures that count."""

    def __init__(self, nodes, hooked, measures, many_barred, is_lean):
        rules = []
        for node in nodes:
            dealings = [Dealing(told, node, is_lean, index < many_barred) for index, told in enumerate(hooked)]
            rules.append(dealings + tally_rules(measures, node))
        Folds.__init__(self, nodes, rules, len(hooked) + len(strands_of(measures)))
        self.many_hooked = len(hooked)
        self.measures = measures

    def row_of(self, traits):
        """Return the row, in numbers, of something of the form of traits."""
        values = [tuple([piece[1:] for piece in traits[1] if piece[0] == index]) for index in range(self.many_hooked)]
        return self.numbered(traits[0], values + tally_values(self.measures, traits[2]))

    def traits_of(self, row):
        """Return what has the form of traits of a row in numbers."""
        values = self.values_of(row)
        pieces = [(index,) + piece for index in range(self.many_hooked) for piece in values[index]]
        tallies = tallies_of(self.measures, values[self.many_hooked:])
        return row[0], tuple(pieces), tuple([(name,) + tallies[name] for name, _, _ in self.measures])


def tally_values(measures, numbers):
    """Return the list of the values of the strands of measures, by the (measure, rest, few) of each."""
    tallies = {name: (rest, few) for name, rest, few in numbers}
    found = []
    for names in strands_of(measures):
        found.append(tuple([tallies[name] for name in names]) if len(names) > 1 else tallies[names[0]])
    return found


def tallies_of(measures, values):
    """Return the dict of (rest, few) of each measure, by the values of the strands of measures."""
    tallies = {}
    for names, value in zip(strands_of(measures), values):
        for name, tally in zip(names, value if len(names) > 1 else (value,)):
            tallies[name] = tally
    return tallies


def strands_of(measures):
    """Return the list of the tuples of the names of measures that make up a strand."""
    names = [name for name, _, _ in measures]
    if "turns" not in names:
        return [(name,) for name in names]
    return [("things", "turns")] + [(name,) for name in names if name != "things" and name != "turns"]


def tally_rules(measures, node):
    """Return the list of the rules of the strands of measures, for a node."""
    tallies = {name: (modulus, number) for name, modulus, number in measures}
    found = []
    for names in strands_of(measures):
        if len(names) > 1:
            found.append(Turns(tallies["things"], tallies["turns"], node))
        else:
            found.append(Sums(names[0], tallies[names[0]][0], tallies[names[0]][1], node))
    return found


def put_rows(forbidden, fact, node, rows):
    """Return what is put together of a node and as many things of the form of traits; nothing is checked."""
    folds = TraitFolds([node], hooked_asked(forbidden, fact), measures_asked(fact), 0, False)
    state = folds.start_of(0)
    for at, row in enumerate(rows):
        state = folds.folded(0, at, state, folds.kept_of_row(0, at, folds.row_of(row)))
    return folds.traits_of(state)
