"""Forms with slots, and the words of letters that fill the slots of a form with numbers."""

from itertools import permutations

from wholeorders.errors import InvalidForm, InvalidLetter, InvalidWord
from wholeorders.integers import are_integers
from wholeorders.lists import check_list, does_let
from wholeorders.patterns import check_things, is_order

FIRST_FORM = (0,)
BOTH_SIDES = 0
RIGHT_SIDE = 1
LEFT_SIDE = 2
NO_SIDE = 3


def is_form(told):
    """Tell whether something is a form."""
    if not are_integers(told) or len(told) == 0:
        return False
    for place in range(1, len(told)):
        if told[place] == 0 and told[place - 1] == 0:
            return False
    return is_order(tuple([number for number in told if number != 0]))


def check_form(form):
    """Raise InvalidForm for what is no form."""
    if not is_form(form):
        raise InvalidForm(form)


def is_letter(told):
    """Tell whether something is a letter, of any slot from 1 on."""
    return are_integers(told) and len(told) == 2 and told[0] >= 1 and 0 <= told[1] <= 3


def is_letter_row(told):
    """Tell whether something is a tuple of letters, of any slots from 1 on."""
    if not isinstance(told, tuple):
        return False
    for letter in told:
        if not is_letter(letter):
            return False
    return True


def slots(form):
    """Return how many slots a form has."""
    check_form(form)
    return form.count(0)


def filled(form, letter):
    """Return the form behind a letter, neither of them checked."""
    slot, way = letter
    places = [place for place, number in enumerate(form) if number == 0]
    place = places[slot - 1]
    number = len(form) - len(places) + 1
    left = (0,) if way == BOTH_SIDES or way == LEFT_SIDE else ()
    right = (0,) if way == BOTH_SIDES or way == RIGHT_SIDE else ()
    return form[:place] + left + (number,) + right + form[place + 1:]


def put(form, letter):
    """Return the form behind a letter."""
    check_form(form)
    if not is_letter(letter) or letter[0] > form.count(0):
        raise InvalidLetter(letter)
    return filled(form, letter)


def letters(form):
    """Return the ascending list of the letters that a form takes."""
    check_form(form)
    return letters_of(form.count(0))


def letters_of(many):
    """Return the ascending list of the letters of so many slots."""
    return [(slot, way) for slot in range(1, many + 1) for way in range(4)]


def led(word):
    """Return the form to which a word leads."""
    form = led_form(word)
    if form is None:
        raise InvalidWord(word)
    return form


def led_form(word):
    """Return the form to which a word leads, or None for what is no word."""
    if not is_letter_row(word):
        return None
    form = FIRST_FORM
    for letter in word:
        if letter[0] > form.count(0):
            return None
        form = filled(form, letter)
    return form


def word_of(order):
    """Return the whole word of an order of one or more things."""
    check_things(order)
    return whole_word(order)


def whole_word(order):
    """Return the whole word of an order of one or more things, which is not checked."""
    return tuple([letter_for(order, number) for number in range(1, len(order) + 1)])


def letter_for(order, number):
    """Return the letter that puts a number of an order, those less than it being put already."""
    place = order.index(number)
    slot = 1
    for at in range(1, place):
        if order[at - 1] > number and order[at] < number:
            slot += 1
    left = place > 0 and order[place - 1] > number
    right = place + 1 < len(order) and order[place + 1] > number
    return slot, way_of(left, right)


def way_of(left, right):
    """Return the way of a letter that leaves a slot to the left, to the right of its number or not."""
    if left:
        return BOTH_SIDES if right else LEFT_SIDE
    return RIGHT_SIDE if right else NO_SIDE


def order_of(word):
    """Return the order of a whole word."""
    form = led_form(word)
    if form is None or 0 in form:
        raise InvalidWord(word)
    return form


def widest(order):
    """Return the greatest number of slots of the forms on the way to an order of one or more things."""
    check_things(order)
    form = FIRST_FORM
    most = 1
    for letter in whole_word(order):
        form = filled(form, letter)
        most = max(most, form.count(0))
    return most


def is_open(forbidden, form):
    """Tell whether a form is open for a list."""
    return filling(forbidden, form) is not None


def filling(forbidden, form):
    """Return the first let order that comes of a form if each slot is filled by one number, or None."""
    check_form(form)
    check_list(forbidden)
    places = [place for place, number in enumerate(form) if number == 0]
    start = len(form) - len(places) + 1
    for numbers in permutations(range(start, len(form) + 1)):
        order = list(form)
        for place, number in zip(places, numbers):
            order[place] = number
        if does_let(forbidden, tuple(order)):
            return tuple(order)
    return None
