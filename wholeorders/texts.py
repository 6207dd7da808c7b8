"""Texts of orders, lists, words, machines, sayings, pin words, shapes, facts and papers."""

WAYS = "mlrf"
NOTHING = "-"


def joined_or(pieces, between):
    """Return pieces of text with something between each two, or the sign for nothing if there are none."""
    return between.join(pieces) if pieces else NOTHING


def show_number(a):
    """Return the text of a number."""
    top, bottom = a
    return str(top) if bottom == 1 else str(top) + "/" + str(bottom)


def show_order(order):
    """Return the text of an order."""
    return joined_or([str(number) for number in order], " ")


def show_list(forbidden):
    """Return the text of a list."""
    return joined_or([show_order(pattern) for pattern in forbidden], ", ")


def show_letter(letter):
    """Return the text of a letter."""
    slot, way = letter
    return str(slot) + WAYS[way]


def show_word(word):
    """Return the text of a word."""
    return joined_or([show_letter(letter) for letter in word], " ")


def show_machine(machine):
    """Return the text of a machine: a line for each state."""
    rows, ends = machine
    lines = []
    for state, row in enumerate(rows):
        steps = joined_or([show_letter(letter) + " " + str(after) for letter, after in row], ", ")
        lines.append(str(state) + (" end : " if state in ends else " : ") + steps)
    return "\n".join(lines)


def in_round(pieces):
    """Return pieces of text, separated by a space, in round brackets."""
    return "(" + " ".join(pieces) + ")"


def show_saying(saying):
    """Return the text of a saying."""
    if saying[0] == "list":
        return in_round(["list", "[" + show_list(saying[1]) + "]"])
    if saying[0] == "sorted":
        return in_round(saying)
    return in_round([saying[0]] + [show_saying(inner) for inner in saying[1:]])


def show_pin(word):
    """Return the text of a pin word."""
    return joined_or([str(letter) for letter in word], " ")


def show_shape(shape):
    """Return the text of a shape."""
    if shape[0] == "one":
        return "o"
    if shape[0] == "simple":
        return in_round(["[" + show_order(shape[1]) + "]"] + [show_shape(inner) for inner in shape[2]])
    return in_round(["+" if shape[0] == "sum" else "-", show_shape(shape[1]), show_shape(shape[2])])


def show_fact(fact):
    """Return the text of a fact."""
    if fact[0] == "shows":
        return in_round(["shows", "[" + show_order(fact[1]) + "]"] + [str(bond) for bond in fact[2]])
    if fact[0] == "rest" or fact[0] == "least":
        return in_round([str(piece) for piece in fact])
    return in_round([fact[0]] + [show_fact(inner) for inner in fact[1:]])


def show_fate(paper):
    """Return the text of a paper of a list: of few simple orders, of a kind or of a road."""
    if paper[0] == "few":
        return "\n".join(["few " + str(paper[2])] + [show_order(order) for order in paper[1]])
    if paper[0] == "family":
        return "family " + paper[1][0] + " " + str(paper[1][1])
    return "pins " + show_pin(paper[1]) + " / " + show_pin(paper[2])
