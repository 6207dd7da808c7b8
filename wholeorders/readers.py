"""What has a text: each thing is made of what the text seems to tell, and taken if just this is its text."""

from wholeorders.blocks import is_shape, is_simple
from wholeorders.errors import Unreadable
from wholeorders.facts import is_fact
from wholeorders.families import is_kind
from wholeorders.lists import by_length, is_list
from wholeorders.machines import is_machine
from wholeorders.nests import is_round, nest_in, square_in
from wholeorders.patterns import is_order
from wholeorders.pins import is_pin_word
from wholeorders.roads import is_road
from wholeorders.sayings import is_saying
from wholeorders.slots import is_letter
from wholeorders.steps import LEAST
from wholeorders.texts import NOTHING, WAYS, show_fact, show_fate, show_letter, show_saying, show_shape

MOST_DIGITS = 9
DIGITS = "0123456789"
END = " end"
BETWEEN = " : "


def first_line(text):
    """Return the first line of a text."""
    return text.split("\n")[0]


def of_one_line(text, found):
    """Return what was found in the first line of a text; raise Unreadable if it is None, or there are more lines."""
    if found is None:
        raise Unreadable(1)
    if "\n" in text:
        raise Unreadable(2)
    return found


def integer_in(word):
    """Return the integer that has a text, or None; an integer below 0 has a sign ahead."""
    digits = word[1:] if word.startswith("-") else word
    if not 1 <= len(digits) <= MOST_DIGITS or not all([sign in DIGITS for sign in digits]):
        return None
    number = int(word)
    return number if str(number) == word else None


def integers_in(words):
    """Return the tuple of the integers that have texts, or None if some text is that of none."""
    found = [integer_in(word) for word in words]
    return None if None in found else tuple(found)


def order_in(line):
    """Return the order that has a line as its text, or None."""
    if line == NOTHING:
        return ()
    order = integers_in(line.split(" "))
    return order if order is not None and is_order(order) else None


def read_order(text):
    """Return the order that has a text."""
    return of_one_line(text, order_in(first_line(text)))


def list_in(line):
    """Return the list that has a line as its text, or None."""
    if line == NOTHING:
        return ()
    forbidden = tuple([order_in(piece) for piece in line.split(", ")])
    return forbidden if is_list(forbidden) else None


def read_list(text):
    """Return the list that has a text."""
    return of_one_line(text, list_in(first_line(text)))


def letter_in(word):
    """Return the letter, of any slot from 1 on, that has a text, or None."""
    slot = integer_in(word[:-1])
    letter = (slot, WAYS.find(word[-1:]))
    return letter if is_letter(letter) and show_letter(letter) == word else None


def word_in(line):
    """Return the word, of any slots from 1 on, that has a line as its text, or None."""
    if line == NOTHING:
        return ()
    word = tuple([letter_in(piece) for piece in line.split(" ")])
    return None if None in word else word


def read_word(text):
    """Return the word that has a text."""
    return of_one_line(text, word_in(first_line(text)))


def read_machine(text):
    """Return the machine that has a text."""
    rows = []
    ends = []
    for index, line in enumerate(text.split("\n")):
        row = machine_row_in(line, index)
        if row is None:
            raise Unreadable(index + 1)
        rows.append(row[1])
        if row[0]:
            ends.append(index)
    machine = (tuple(rows), tuple(ends))
    if not is_machine(machine):
        raise Unreadable(0)
    return machine


def machine_row_in(line, index):
    """Return (is an end, tuple of (letter, state)) of the line of a state of a machine, or None."""
    head, middle, steps = line.partition(BETWEEN)
    is_end = head.endswith(END)
    if middle == "" or head != str(index) + (END if is_end else ""):
        return None
    if steps == NOTHING:
        return is_end, ()
    row = tuple([step_in(piece) for piece in steps.split(", ")])
    return None if None in row else (is_end, row)


def step_in(piece):
    """Return the (letter, state) that has a text, or None."""
    letter, _, state = piece.partition(" ")
    step = (letter_in(letter), integer_in(state))
    return None if None in step or step[1] < 0 else step


def saying_in(line):
    """Return the saying that has a line as its text, or None."""
    saying = saying_of(nest_in(line))
    return saying if is_saying(saying) and show_saying(saying) == line else None


def saying_of(nest):
    """Return what a nest tells of a saying, or None; it may be none."""
    if not is_round(nest):
        return None
    if nest[0] == "sorted":
        return tuple(nest)
    if nest[0] == "list":
        lists = [square_in(piece) for piece in nest[1:]]
        return ("list",) + tuple([None if told is None else list_in(told) for told in lists])
    return (nest[0],) + tuple([saying_of(piece) for piece in nest[1:]])


def read_saying(text):
    """Return the saying that has a text."""
    return of_one_line(text, saying_in(first_line(text)))


def pin_in(line):
    """Return the pin word that has a line as its text, or None."""
    if line == NOTHING:
        return ()
    letters = tuple([piece if integer_in(piece) is None else integer_in(piece) for piece in line.split(" ")])
    return letters if is_pin_word(letters) else None


def read_pin(text):
    """Return the pin word that has a text."""
    return of_one_line(text, pin_in(first_line(text)))


def shape_in(line):
    """Return the shape that has a line as its text, or None."""
    told = shape_told(nest_in(line))
    return told if is_shape(told) and show_shape(told) == line else None


def shape_told(nest):
    """Return what a nest tells of a shape, or None; it may be none."""
    if nest == "o":
        return ("one",)
    if not is_round(nest):
        return None
    inner = tuple([shape_told(piece) for piece in nest[1:]])
    order = square_in(nest[0])
    if order is not None:
        return "simple", order_in(order), inner
    return ("sum" if nest[0] == "+" else "skew",) + inner


def read_shape(text):
    """Return the shape that has a text."""
    return of_one_line(text, shape_in(first_line(text)))


def fact_in(line):
    """Return the fact that has a line as its text, or None."""
    fact = fact_of(nest_in(line))
    return fact if is_fact(fact) and show_fact(fact) == line else None


def fact_of(nest):
    """Return what a nest tells of a fact, or None; it may be none."""
    if not is_round(nest):
        return None
    kind = nest[0]
    if kind == "shows" and len(nest) > 1:
        order = square_in(nest[1])
        return kind, None if order is None else order_in(order), numbers_of(nest[2:])
    if kind == "rest" or kind == "least":
        return (kind,) + tuple(nest[1:2]) + numbers_of(nest[2:])
    return (kind,) + tuple([fact_of(piece) for piece in nest[1:]])


def numbers_of(nests):
    """Return the tuple of what nests tell of integers, None for each that is none."""
    return tuple([integer_in(nest) if isinstance(nest, str) else None for nest in nests])


def read_fact(text):
    """Return the fact that has a text."""
    return of_one_line(text, fact_in(first_line(text)))


def read_fate(text):
    """Return the paper, of few simple orders, of a kind or of a road, that has a text."""
    line = first_line(text)
    word, _, rest = line.partition(" ")
    if word == "few":
        return few_read(text, integer_in(rest))
    paper = road_told(rest) if word == "pins" else kind_told(rest)
    return of_one_line(text, paper if paper is not None and show_fate(paper) == line else None)


def kind_told(rest):
    """Return the paper of a kind that a text seems to tell, or None."""
    name, _, posture = rest.partition(" ")
    kind = (name, integer_in(posture))
    return ("family", kind) if is_kind(kind) else None


def road_told(rest):
    """Return the paper of a road that a text seems to tell, or None."""
    seed, _, way = rest.partition(" / ")
    letters = [pin_in(seed), way_in(way)]
    return ("pins", letters[0], letters[1]) if is_road(letters[0], letters[1]) else None


def way_in(line):
    """Return the tuple of the directions that a text seems to tell."""
    return tuple(line.split(" "))


def few_read(text, n):
    """Return the paper of few simple orders that has a text, n being the number in its first line."""
    if n is None or n < 0:
        raise Unreadable(1)
    orders = []
    for number, line in enumerate(text.split("\n")[1:], 2):
        order = order_in(line)
        if order is None:
            raise Unreadable(number)
        orders.append(order)
    keys = [by_length(order) for order in orders]
    rises = all([keys[at - 1] < keys[at] for at in range(1, len(keys))])
    if n < LEAST or not rises or not all([is_simple(order) and len(order) < n for order in orders]):
        raise Unreadable(0)
    return "few", tuple(orders), n
