"""Least machines, and machines that run two machines side by side. What is handed in is not checked."""

NO_WORDS = (((),), ())
DEAD = -1


def least_of_machine(rows, ends):
    """Return the least machine of the words that a machine spells."""
    useful = useful_states(rows, ends)
    if 0 not in useful:
        return NO_WORDS
    numbers = {state: at for at, state in enumerate(useful)}
    kept = []
    for state in useful:
        kept.append([(letter, numbers[after]) for letter, after in rows[state] if after in numbers])
    last = [numbers[state] for state in ends if state in numbers]
    return numbered(kept, last, classes(kept, last))


def states_met(source, first):
    """Return (states, rows): all states to which steps lead from the first, and their (letter, index of a state).

    The source tells by its method steps the (letter, state) behind a state.
    """
    numbers = {first: 0}
    states = [first]
    rows = []
    while len(rows) < len(states):
        row = []
        for letter, after in source.steps(states[len(rows)]):
            if after not in numbers:
                numbers[after] = len(states)
                states.append(after)
            row.append((letter, numbers[after]))
        rows.append(row)
    return states, rows


def useful_states(rows, ends):
    """Return the list, from 0 on, of the states that are reached and from which a word leads to an end."""
    backward = [[] for _ in rows]
    for state, row in enumerate(rows):
        for _, after in row:
            backward[after].append(state)
    forward = [[after for _, after in row] for row in rows]
    reached = reached_from([0], forward)
    ending = reached_from(list(ends), backward)
    return [state for state in reached if state in ending]


def reached_from(starts, steps):
    """Return a dict of the states to which steps lead from the starts."""
    reached = {state: True for state in starts}
    waiting = list(starts)
    while waiting:
        state = waiting.pop()
        for after in steps[state]:
            if after not in reached:
                reached[after] = True
                waiting.append(after)
    return reached


def classes(rows, ends):
    """Return the class of each state: two states are of one if the same words lead from them to an end.

    Classes are split by what leads into a class and what does not, the smaller part being a new class that must
    split others in its turn (Hopcroft). From each state some word must lead to an end.
    """
    sources = [[] for _ in rows]
    for state, row in enumerate(rows):
        for letter, after in row:
            sources[after].append((letter, state))
    at_end = {state: True for state in ends}
    others = {state: True for state in range(len(rows)) if state not in at_end}
    members = [group for group in (at_end, others) if group]
    class_of = [0 if state in members[0] else 1 for state in range(len(rows))]
    waiting = list(range(len(members)))
    while waiting:
        leading = by_letter(sources, members[waiting.pop()])
        for letter in leading:
            waiting.extend(split_classes(members, class_of, leading[letter]))
    return class_of


def by_letter(sources, group):
    """Return a dict from each letter to the list of the states that it leads into a group."""
    leading = {}
    for state in group:
        for letter, source in sources[state]:
            leading.setdefault(letter, []).append(source)
    return leading


def split_classes(members, class_of, states):
    """Split each class of which some members, but not all, are among the states; return the new classes."""
    touched = {}
    for state in states:
        touched.setdefault(class_of[state], []).append(state)
    added = []
    for old in touched:
        inside = touched[old]
        outside = len(members[old]) - len(inside)
        if outside > 0:
            among = {state: True for state in inside}
            smaller = inside
            if outside < len(inside):
                smaller = [state for state in members[old] if state not in among]
            added.append(len(members))
            move_out(members, class_of, old, smaller)
    return added


def move_out(members, class_of, old, states):
    """Make a new class of some members of an old one."""
    new = len(members)
    members.append({state: True for state in states})
    for state in states:
        del members[old][state]
        class_of[state] = new


def numbered(rows, ends, class_of):
    """Return the machine of the classes of states, numbered as they are met breadth first, letters ascending."""
    example = {}
    for state, group in enumerate(class_of):
        example[group] = state
    numbers = {class_of[0]: 0}
    met = [class_of[0]]
    told = []
    for _ in range(len(example)):
        row = []
        for letter, after in sorted(rows[example[met[len(told)]]]):
            group = class_of[after]
            if group not in numbers:
                numbers[group] = len(met)
                met.append(group)
            row.append((letter, numbers[group]))
        told.append(tuple(row))
    last = {numbers[class_of[state]]: True for state in ends}
    return tuple(told), tuple(sorted(last))


def pairs_behind(tables, pair):
    """Return the ascending list of (letter, pair of states) behind a pair of states of two machines."""
    one = row_at(tables[0], pair[0])
    other = row_at(tables[1], pair[1])
    known = {letter: True for letter in one}
    for letter in other:
        known[letter] = True
    return [(letter, (one.get(letter, DEAD), other.get(letter, DEAD))) for letter in sorted(known)]


def row_at(table, state):
    """Return the dict of a state's row; of what is dead an empty one."""
    return {} if state == DEAD else table[state]


def tables_of(one, other):
    """Return the rows of two machines as lists of dicts."""
    return [dict(row) for row in one[0]], [dict(row) for row in other[0]]


def side_by_side(one, other, wanted):
    """Return the least machine of the words for which (the one spells it, the other one does) is wanted."""
    tables = tables_of(one, other)
    numbers = {(0, 0): 0}
    pairs = [(0, 0)]
    rows = []
    while len(rows) < len(pairs):
        row = []
        for letter, pair in pairs_behind(tables, pairs[len(rows)]):
            if hopeful(pair, wanted):
                if pair not in numbers:
                    numbers[pair] = len(pairs)
                    pairs.append(pair)
                row.append((letter, numbers[pair]))
        rows.append(row)
    ends = [at for at, pair in enumerate(pairs) if spelled(one, other, pair) in wanted]
    return least_of_machine(rows, ends)


def hopeful(pair, wanted):
    """Tell whether a pair of states of which none, one or both are dead may lead to what is wanted."""
    for spelled_by_one, spelled_by_other in wanted:
        if (pair[0] != DEAD or not spelled_by_one) and (pair[1] != DEAD or not spelled_by_other):
            return True
    return False


def spelled(one, other, pair):
    """Return of each state of a pair whether it is an end of its machine."""
    return pair[0] in one[1], pair[1] in other[1]


def first_unlike_word(one, other):
    """Return the first word, by length and then as tuples, that just one of two machines spells, or None."""
    tables = tables_of(one, other)
    known = {(0, 0): True}
    waiting = [((0, 0), ())]
    while waiting:
        coming = []
        for pair, word in waiting:
            by_one, by_other = spelled(one, other, pair)
            if by_one != by_other:
                return word
            for letter, after in pairs_behind(tables, pair):
                if after not in known:
                    known[after] = True
                    coming.append((after, word + (letter,)))
        waiting = coming
    return None
