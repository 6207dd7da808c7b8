"""What stands in round and square brackets in a text, as a list within lists; nothing is told of how deep it is."""

SQUARE = "["


def nest_in(line):
    """Return the one thing that a line tells, or None if its brackets do not match or there is not just one.

    A word is a text, what stands in round brackets a list, in square ones a tuple (SQUARE, what stands there).
    """
    rows = [[]]
    for word in words_in(line):
        if word == "(":
            rows.append([])
        elif word == ")":
            if len(rows) == 1:
                return None
            row = rows.pop()
            rows[-1].append(row)
        else:
            rows[-1].append((SQUARE, word[1:-1]) if word.startswith(SQUARE) else word)
    return rows[0][0] if len(rows) == 1 and len(rows[0]) == 1 else None


def words_in(line):
    """Return the list of the words of a line: round brackets, square ones with what stands in them, and others."""
    found = []
    start = 0
    for at, sign in enumerate(line):
        if at >= start and sign in "()[ ":
            if start < at:
                found.append(line[start:at])
            end = line.find("]", at) + 1 if sign == SQUARE else at + 1
            # Without its other bracket a square one takes all that is left, which is then none of what is asked for.
            start = end if end > 0 else len(line)
            if sign != " ":
                found.append(line[at:start])
    if start < len(line):
        found.append(line[start:])
    return found


def is_round(nest):
    """Tell whether a nest is one in round brackets, with something in them."""
    return isinstance(nest, list) and len(nest) > 0


def square_in(nest):
    """Return what stands in the square brackets of a nest, or None if it is none in such."""
    return nest[1] if isinstance(nest, tuple) else None
