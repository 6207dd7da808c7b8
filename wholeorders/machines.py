"""Machines that spell words, and the least machine of the whole words of the orders that a list lets."""

from wholeorders.alternations import first_endless
from wholeorders.automata import NO_WORDS, first_unlike_word, least_of_machine, side_by_side, states_met
from wholeorders.errors import InvalidMachine, InvalidWord, NoMachine
from wholeorders.futures import FIRST_STATE, Futures
from wholeorders.integers import are_integers, check_number, is_integer
from wholeorders.lists import check_list
from wholeorders.slots import is_letter, is_letter_row

BOTH = (True, True)
ONE_ALONE = (True, False)
OTHER_ALONE = (False, True)


def is_machine(told):
    """Tell whether something is a machine."""
    if not isinstance(told, tuple) or len(told) != 2 or not isinstance(told[0], tuple) or len(told[0]) == 0:
        return False
    rows, ends = told
    for row in rows:
        if not is_row(row, len(rows)):
            return False
    return are_integers(ends) and rises(ends) and all([0 <= state < len(rows) for state in ends])


def is_row(told, many):
    """Tell whether something is an ascending tuple of (letter, state), of so many states, each letter at most once."""
    if not isinstance(told, tuple):
        return False
    for pair in told:
        if not isinstance(pair, tuple) or len(pair) != 2 or not is_letter(pair[0]):
            return False
        if not is_integer(pair[1]) or not 0 <= pair[1] < many:
            return False
    return rises([letter for letter, _ in told])


def rises(row):
    """Tell whether each thing of a row is less than the next one."""
    return all([row[at - 1] < row[at] for at in range(1, len(row))])


def check_machine(machine):
    """Raise InvalidMachine for what is no machine."""
    if not is_machine(machine):
        raise InvalidMachine(machine)


def spells(machine, word):
    """Tell whether a machine spells a word."""
    check_machine(machine)
    if not is_letter_row(word):
        raise InvalidWord(word)
    rows, ends = machine
    state = 0
    for letter in word:
        behind = dict(rows[state])
        if letter not in behind:
            return False
        state = behind[letter]
    return state in ends


def machine(forbidden):
    """Return the least machine of the whole words of the orders, but (), that a list lets."""
    check_stopping_list(forbidden)
    return machine_of(forbidden)


def check_stopping_list(forbidden):
    """Raise InvalidList for what is no list, NoMachine for a list that does not stop all four kinds."""
    check_list(forbidden)
    kind = first_endless(forbidden)
    if kind is not None:
        raise NoMachine(kind)


def machine_of(forbidden):
    """Return the least machine of a list that stops all four kinds, which is not checked."""
    futures = Futures(forbidden)
    if not futures.is_live(FIRST_STATE):
        return NO_WORDS
    states, rows = states_met(futures, FIRST_STATE)
    return least_of_machine(rows, [at for at, state in enumerate(states) if state[0] == 0])


def least_machine(machine):
    """Return the least machine of the words that a machine spells."""
    check_machine(machine)
    return least_of_machine(machine[0], machine[1])


def check_machines(one, other):
    """Raise InvalidMachine for the first of two that is no machine."""
    check_machine(one)
    check_machine(other)


def same_words(one, other):
    """Return the first word, by length and then as tuples, that just one of two machines spells, or None."""
    check_machines(one, other)
    return first_unlike_word(one, other)


def met_machine(one, other):
    """Return the least machine of the words that both machines spell."""
    check_machines(one, other)
    return side_by_side(one, other, (BOTH,))


def joined_machine(one, other):
    """Return the least machine of the words that at least one of two machines spells."""
    check_machines(one, other)
    return side_by_side(one, other, (BOTH, ONE_ALONE, OTHER_ALONE))


def less_machine(one, other):
    """Return the least machine of the words that the one machine spells and the other one does not."""
    check_machines(one, other)
    return side_by_side(one, other, (ONE_ALONE,))


def words(machine, n):
    """Return the ascending list of the words of n letters that a machine spells."""
    check_machine(machine)
    check_number(n)
    rows, ends = machine
    hopeful = [{state: True for state in ends}]
    for _ in range(n):
        ahead = hopeful[-1]
        hopeful.append({at: True for at, row in enumerate(rows) if any([after in ahead for _, after in row])})
    found = [((), 0)] if 0 in hopeful[n] else []
    for left in range(n - 1, -1, -1):
        going = hopeful[left]
        found = [(word + (letter,), after) for word, state in found for letter, after in rows[state] if after in going]
    return [word for word, _ in found]
