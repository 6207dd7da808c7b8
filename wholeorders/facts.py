"""Facts about orders: hooked patterns, measures, and what is put together of these."""

from wholeorders.blocks import parts
from wholeorders.errors import InvalidFact
from wholeorders.integers import are_integers, is_integer
from wholeorders.patterns import check_order, does_show, is_pattern

MEASURES = ("things", "turns", "drops", "tops", "parts")
TRUE_OF_ALL = ("least", "things", 0)


def is_hooked(told):
    """Tell whether something is a hooked pattern."""
    if not isinstance(told, tuple) or len(told) != 2 or not is_pattern(told[0]):
        return False
    pattern, bonds = told
    if not are_integers(bonds) or list(bonds) != sorted(set(bonds)):
        return False
    return all([-1 <= bond < len(pattern) for bond in bonds])


def is_measure(told):
    """Tell whether something is the name of a measure."""
    return isinstance(told, str) and told in MEASURES


def is_fact(told):
    """Tell whether something is a fact."""
    if not isinstance(told, tuple) or len(told) == 0:
        return False
    kind = told[0]
    if kind == "shows":
        return is_hooked(told[1:])
    if kind == "rest":
        return len(told) == 4 and is_measure(told[1]) and is_integer(told[2]) and is_below(told[3], told[2])
    if kind == "least":
        return len(told) == 3 and is_measure(told[1]) and is_integer(told[2]) and told[2] >= 0
    if kind == "both" or kind == "either":
        return len(told) == 3 and is_fact(told[1]) and is_fact(told[2])
    return kind == "not" and len(told) == 2 and is_fact(told[1])


def is_below(told, modulus):
    """Tell whether something is a rest by a modulus; there is none by one below 1."""
    return is_integer(told) and 0 <= told < modulus


def check_fact(fact):
    """Raise InvalidFact for what is no fact."""
    if not is_fact(fact):
        raise InvalidFact(fact)


def check_hooked(hooked):
    """Raise InvalidFact for what is no hooked pattern."""
    if not is_hooked(hooked):
        raise InvalidFact(hooked)


def meets(order, hooked):
    """Tell whether an order shows a hooked pattern."""
    check_hooked(hooked)
    check_order(order)
    return does_meet(order, hooked)


def does_meet(order, hooked):
    """Tell whether an order shows a hooked pattern; neither is checked."""
    pattern, bonds = hooked
    return len(hooked_places(order, pattern, bonds)) > 0 if bonds else does_show(order, pattern)


def meeting_places(order, hooked):
    """Return the ascending list of all tuples of places at which an order shows a hooked pattern."""
    check_hooked(hooked)
    check_order(order)
    return hooked_places(order, hooked[0], hooked[1])


def hooked_places(order, entries, bonds):
    """Return the ascending list of the places at which numbers compare as the entries do and the bonds are kept."""
    found = [()]
    for at in range(len(entries)):
        grown = []
        for chosen in found:
            for place in places_behind(order, chosen, bonds, at + 1 == len(entries)):
                if compares_so(order, entries, chosen, place):
                    grown.append(chosen + (place,))
        found = grown
    return found


def places_behind(order, chosen, bonds, is_last):
    """Return the range of the places that the next entry can have, behind the chosen ones."""
    at = len(chosen)
    start = chosen[-1] + 1 if chosen else 0
    end = min(start + 1, len(order)) if at - 1 in bonds else len(order)
    if is_last and at in bonds:
        start = max(start, len(order) - 1)
    return list(range(start, end))


def compares_so(order, entries, chosen, place):
    """Tell whether the number at a place compares with those at the chosen ones as its entry with theirs."""
    entry = entries[len(chosen)]
    for other, before in zip(chosen, entries):
        if (order[other] < order[place]) != (before < entry):
            return False
    return True


def measure(order, name):
    """Return a measure of an order."""
    if not is_measure(name):
        raise InvalidFact(name)
    check_order(order)
    return measured(order, name)


def measured(order, name):
    """Return a measure of an order; neither is checked."""
    if name == "things":
        return len(order)
    if name == "parts":
        return len(parts(order))
    if name == "tops":
        return len({max(order[:at]): True for at in range(1, len(order) + 1)})
    if name == "drops":
        return len([at for at in range(1, len(order)) if order[at - 1] > order[at]])
    return sum([len([ahead for ahead in order[:at] if ahead > number]) for at, number in enumerate(order)])


def is_true(fact, order):
    """Tell whether a fact is true of an order."""
    check_fact(fact)
    check_order(order)
    return does_hold(fact, order)


def does_hold(fact, order):
    """Tell whether a fact is true of an order; neither is checked."""
    kind = fact[0]
    if kind == "shows":
        return does_meet(order, fact[1:])
    if kind == "rest":
        return measured(order, fact[1]) % fact[2] == fact[3]
    if kind == "least":
        return measured(order, fact[1]) >= fact[2]
    if kind == "not":
        return not does_hold(fact[1], order)
    if kind == "both":
        return does_hold(fact[1], order) and does_hold(fact[2], order)
    return does_hold(fact[1], order) or does_hold(fact[2], order)


def hooked_of(fact):
    """Return the tuple of the hooked patterns of a fact from the left, as often as they stand."""
    check_fact(fact)
    return tuple([leaf[1:] for leaf in leaves_of(fact) if leaf[0] == "shows"])


def leaves_of(fact):
    """Return the list of the facts from the left of which a fact, which is not checked, is put together."""
    if fact[0] not in ("both", "either", "not"):
        return [fact]
    found = []
    for inner in fact[1:]:
        found.extend(leaves_of(inner))
    return found
