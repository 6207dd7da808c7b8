"""Systems of sums of products, by which the orders that are let are counted once more.

The factors -1 and -2 stand for 1 and for x; a sum is a row of how often each power of x stands in it.
"""

from wholeorders.errors import InvalidPaper
from wholeorders.facts import TRUE_OF_ALL
from wholeorders.growths import nodes_of
from wholeorders.integers import are_integers, check_number
from wholeorders.lists import least_of
from wholeorders.lots import merged_of
from wholeorders.roads import MOST_SIMPLE, few_paper

UNIT = -1
POWER = -2


def is_system(told):
    """Tell whether something is a system."""
    if not isinstance(told, tuple) or len(told) == 0:
        return False
    for row in told:
        if not is_system_row(row, len(told)):
            return False
    return True


def is_system_row(told, many):
    """Tell whether something is an ascending tuple of unlike (times, v, w), of so many unknowns."""
    if not isinstance(told, tuple):
        return False
    for product in told:
        if not are_integers(product) or len(product) != 3 or product[0] < 1:
            return False
        if not POWER <= product[1] <= product[2] < many:
            return False
    return all([told[at - 1] < told[at] for at in range(1, len(told))])


def bare_ones(system):
    """Return a dict of the factors that have a power 0 of x: -1, and the bare unknowns."""
    bare = {UNIT: True}
    grown = True
    while grown:
        more = [number for number, row in enumerate(system) if number not in bare and is_bare_row(row, bare)]
        bare.update({number: True for number in more})
        grown = len(more) > 0
    return bare


def is_bare_row(row, bare):
    """Tell whether some product of a row has bare factors alone."""
    return any([one in bare and other in bare for _, one, other in row])


def steps_from(row, bare):
    """Return the list of the unknowns to which steps lead from the unknown with a row."""
    found = {}
    for _, one, other in row:
        if other in bare:
            found[one] = True
        if one in bare:
            found[other] = True
    return [number for number in found if number >= 0]


def founded_sequence(system):
    """Return the list of the unknowns, those ahead to which steps lead, or None if steps lead round and back."""
    bare = bare_ones(system)
    waiting = {number: steps_from(row, bare) for number, row in enumerate(system)}
    sequence = []
    done = {}
    while waiting:
        free = [number for number, steps in waiting.items() if all([step in done for step in steps])]
        if not free:
            return None
        for number in free:
            done[number] = True
            del waiting[number]
        sequence.extend(free)
    return sequence


def check_system(system):
    """Raise InvalidPaper for what is no system."""
    if not is_system(system):
        raise InvalidPaper(system)


def is_founded(system):
    """Tell whether a system is well founded."""
    check_system(system)
    return founded_sequence(system) is not None


def solved(system, n):
    """Return the list of the numbers of the powers 0 to n of x in the sum of unknown 0."""
    check_system(system)
    sequence = founded_sequence(system)
    if sequence is None:
        raise InvalidPaper(system)
    check_number(n)
    sums = [[0] * (n + 1) for _ in system] + [[0, 1] + [0] * n, [1] + [0] * n]
    # The last two rows are those of x and of 1, so that -2 and -1 are their indexes.
    for power in range(n + 1):
        for number in sequence:
            sums[number][power] = sum([times * product_at(sums[one], sums[other], power)
                                       for times, one, other in system[number]])
    return sums[0]


def product_at(one, other, power):
    """Return how often a power of x stands in the product of two sums."""
    return sum([few * more for few, more in zip(one[:power + 1], other[power::-1])])


def system(forbidden):
    """Return the system of a list with few simple orders."""
    orders = few_paper(forbidden, MOST_SIMPLE)[1]
    merged = merged_of(least_of(forbidden), TRUE_OF_ALL, nodes_of(forbidden, orders), None)
    if merged.one is None:
        return ((),)
    return tuple([row_of(products) for products in products_of(merged)])


def row_of(products):
    """Return the ascending tuple of (times, v, w) of products (v, w), each as often as it stands there."""
    times = {}
    for one, other in products:
        pair = (min(one, other), max(one, other))
        times[pair] = times.get(pair, 0) + 1
    return tuple(sorted([(many,) + pair for pair, many in times.items()]))


def products_of(merged):
    """Return a list of the products (v, w) of each unknown.

    The first is the one of all orders. Then come the classes of orders, then those of the states of nodes behind some
    of their children.
    """
    many = len(merged.signs)
    found = [[(UNIT, 1 + one) for one in range(many)]] + [[] for _ in range(many)]
    found[1 + merged.one].append((POWER, UNIT))
    for table in merged.tables:
        ahead = [UNIT]
        for at, states in enumerate(table):
            behind = [1 + one for one in range(many)]
            if at + 1 < len(table):
                behind = [len(found) + state for state in range(len(table[at + 1]))]
                found.extend([[] for _ in behind])
            for state, steps in enumerate(states):
                for one, after in steps.items():
                    found[behind[after]].append((ahead[state], 1 + one))
            ahead = behind
    return found
