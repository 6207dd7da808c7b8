"""How many orders of each number of things a list with a machine lets, and by which rule."""

from wholeorders.integers import check_number
from wholeorders.machines import check_stopping_list, machine_of
from wholeorders.recurrences import shortest_rule


def count(forbidden, n):
    """Return how many orders of n things are let."""
    return counts(forbidden, n)[n]


def counts(forbidden, n):
    """Return the list of the counts from 0 to n."""
    check_stopping_list(forbidden)
    check_number(n)
    return counted(machine_of(forbidden), n)


def counted(spelling, n):
    """Return the list of the counts from 0 to n of the orders whose whole words a machine spells, and of ()."""
    ways = ways_of_none(spelling)
    found = [1]
    for _ in range(n):
        ways = ways_of_more(spelling, ways)
        found.append(ways[0])
    return found


def ways_of_none(spelling):
    """Return how many words of no letters lead from each state of a machine to an end."""
    rows, ends = spelling
    ways = [0] * len(rows)
    for state in ends:
        ways[state] = 1
    return ways


def ways_of_more(spelling, ways):
    """Return how many words of one letter more lead from each state of a machine to an end."""
    return [sum([ways[after] for _, after in row]) for row in spelling[0]]


def rule(forbidden):
    """Return (firsts, rule): the counts from 0 to m - 1, and the rule of m numbers."""
    check_stopping_list(forbidden)
    firsts, times = integer_rule(forbidden)
    return firsts, tuple([(number, 1) for number in times])


def integer_rule(forbidden):
    """Return the first counts and the rule, a tuple of integers, of a list with a machine, which is not checked."""
    spelling = machine_of(forbidden)
    # With s states the counts but the first one have a rule of s numbers, so all of them one of s + 1.
    numbers = counted(spelling, 2 * len(spelling[0]) + 1)
    times = shortest_rule(numbers)
    return tuple(numbers[:len(times)]), tuple(times)


def degree(forbidden):
    """Return the degree of the polynomial whose values the counts are from some n on, or None if there is none."""
    check_stopping_list(forbidden)
    times = list(integer_rule(forbidden)[1])
    while times and times[-1] == 0:
        times.pop()
    return len(times) - 1 if times == polynomial_rule(len(times)) else None


def polynomial_rule(many):
    """Return the rule of so many numbers of the polynomials whose degree is less than this."""
    signs = [1]
    for _ in range(many):
        signs = [number - ahead for number, ahead in zip(signs + [0], [0] + signs)]
    return [-number for number in signs[1:]]
