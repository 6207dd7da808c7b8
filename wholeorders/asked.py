"""What counts for the traits of orders: the hooked patterns and measures that a list and a fact ask for."""

from math import lcm

from wholeorders.facts import MEASURES, hooked_places, leaves_of, measured
from wholeorders.integers import are_integers, is_integer


def hooked_asked(forbidden, fact):
    """Return the tuple of the hooked patterns that count: those of the list, and behind them those of the fact."""
    return tuple([(pattern, ()) for pattern in forbidden] + hooked_leaves(fact))


def hooked_leaves(fact):
    """Return the list of the hooked patterns of a fact, which is not checked, from the left."""
    return [leaf[1:] for leaf in leaves_of(fact) if leaf[0] == "shows"]


def measures_asked(fact):
    """Return the tuple of (measure, modulus, number) of the measures that count, in their sequence."""
    moduli = {}
    numbers = {}
    for leaf in leaves_of(fact):
        if leaf[0] != "shows":
            # The turns between two children hang on how many things these have.
            for name in ("things", "turns") if leaf[1] == "turns" else (leaf[1],):
                modulus = leaf[2] if leaf[0] == "rest" else 1
                number = leaf[2] if leaf[0] == "least" else 0
                moduli[name] = lcm(moduli.get(name, 1), modulus)
                numbers[name] = max(numbers.get(name, 0), number)
    return tuple([(name, moduli[name], numbers[name]) for name in MEASURES if name in moduli])


def traits_of(forbidden, fact, order):
    """Return the traits of an order of one or more things; nothing is checked."""
    pieces = []
    for index, hooked in enumerate(hooked_asked(forbidden, fact)):
        pieces.extend([(index,) + piece for piece in pieces_of(hooked, order)])
    numbers = []
    for name, modulus, number in measures_asked(fact):
        many = measured(order, name)
        numbers.append((name, many % modulus, min(many, number)))
    return kind_of(order), tuple(pieces), tuple(numbers)


def kind_of(order):
    """Return the kind of an order of one or more things: 1 in parts, 2 in skew parts, else 0 of one thing, or 3."""
    if len(order) == 1:
        return 0
    if measured(order, "parts") > 1:
        return 1
    return 2 if measured(order[::-1], "parts") > 1 else 3


def pieces_of(hooked, order):
    """Return the ascending list of the (a, b, left, right) of a hooked pattern that an order has."""
    pattern, bonds = hooked
    found = {}
    for start in range(len(pattern)):
        for end in range(start + 1, len(pattern) + 1):
            inner = [bond - start for bond in bonds if start <= bond < end - 1]
            for places in hooked_places(order, pattern[start:end], inner):
                for left, right in sides_of(places[0] == 0, places[-1] == len(order) - 1):
                    found[(start, end, left, right)] = True
    return sorted(found)


def sides_of(is_first, is_last):
    """Return all (left, right) of a piece, by whether its places begin at the first one and end at the last one."""
    return [(left, right) for left in range(2 if is_first else 1) for right in range(2 if is_last else 1)]


def is_of_form(forbidden, fact, told):
    """Tell whether something has the form of traits; list and fact are not checked."""
    if not isinstance(told, tuple) or len(told) != 3 or not is_integer(told[0]) or not 0 <= told[0] <= 3:
        return False
    return are_pieces(hooked_asked(forbidden, fact), told[1]) and are_numbers(measures_asked(fact), told[2])


def are_pieces(hooked, told):
    """Tell whether something is an ascending tuple of unlike pieces of hooked patterns."""
    if not isinstance(told, tuple):
        return False
    for piece in told:
        if not are_integers(piece) or len(piece) != 5 or not 0 <= piece[0] < len(hooked):
            return False
        if not 0 <= piece[1] < piece[2] <= len(hooked[piece[0]][0]) or piece[3:] not in sides_of(True, True):
            return False
    return all([told[at - 1] < told[at] for at in range(1, len(told))])


def are_numbers(measures, told):
    """Tell whether something is a tuple of a (measure, rest, few) for each measure, within its modulus and number."""
    if not isinstance(told, tuple) or len(told) != len(measures):
        return False
    for entry, (name, modulus, number) in zip(told, measures):
        if not isinstance(entry, tuple) or len(entry) != 3 or entry[0] != name or not are_integers(entry[1:]):
            return False
        if not 0 <= entry[1] < modulus or not 0 <= entry[2] <= number:
            return False
    return True


def is_let_row(forbidden, row):
    """Tell whether no piece of something of the form of traits is a whole pattern of the list."""
    for piece in row[1]:
        if piece[0] < len(forbidden) and piece[1] == 0 and piece[2] == len(forbidden[piece[0]]):
            return False
    return True


def holds_by(forbidden, fact, row):
    """Tell whether a fact is true by something of the form of traits."""
    return holds_with(fact, shown_by(forbidden, fact, row), {name: (rest, few) for name, rest, few in row[2]})


def shown_by(forbidden, fact, row):
    """Return the tuple of True or False for each hooked pattern of a fact, by something of the form of traits."""
    pieces = {piece: True for piece in row[1]}
    many = len(forbidden)
    return tuple([whole_piece(many + at, hooked) in pieces for at, hooked in enumerate(hooked_leaves(fact))])


def holds_with(fact, shown, tallies):
    """Tell whether a fact is true, by which of its hooked patterns are shown, and by (rest, few) of each measure."""
    true_leaves = []
    waiting = list(shown[::-1])
    for leaf in leaves_of(fact):
        if leaf[0] == "shows":
            true_leaves.append(waiting.pop())
        elif leaf[0] == "rest":
            true_leaves.append(tallies[leaf[1]][0] % leaf[2] == leaf[3])
        else:
            true_leaves.append(tallies[leaf[1]][1] >= leaf[2])
    return combined(fact, true_leaves[::-1])


def whole_piece(index, hooked):
    """Return the piece that an order has exactly if it shows the hooked pattern with an index."""
    pattern, bonds = hooked
    return index, 0, len(pattern), 1 if -1 in bonds else 0, 1 if len(pattern) - 1 in bonds else 0


def combined(fact, waiting):
    """Tell whether a fact is true; waiting tells it of its leaves, the first one last, and loses them."""
    if fact[0] == "not":
        return not combined(fact[1], waiting)
    if fact[0] not in ("both", "either"):
        return waiting.pop()
    one = combined(fact[1], waiting)
    other = combined(fact[2], waiting)
    return one and other if fact[0] == "both" else one or other
