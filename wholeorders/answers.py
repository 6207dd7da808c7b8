"""What a console answers and keeps: an action for each word that begins a text."""

from wholeorders.alternations import endless
from wholeorders.blocks import shape
from wholeorders.closed import closure, is_closed
from wholeorders.counts import count, rule
from wholeorders.lists import inverse_list, is_finite, joined, lets, lies_within, met, mirrored_list, parting, same
from wholeorders.lists import turned_list
from wholeorders.machines import machine
from wholeorders.pins import pin_count
from wholeorders.ranks import nth, place_of
from wholeorders.rates import rate
from wholeorders.roads import fate
from wholeorders.sayings import meaning
from wholeorders.steps import simple_let
from wholeorders.tables import decided
from wholeorders.texts import show_fate, show_list, show_machine, show_number, show_order, show_shape
from wholeorders.treecounts import shape_nth, shape_place, tree_counts

YES = "yes"
NO = "no"
NONE_TOLD = "none"


def yes_or_no(truth):
    """Return the answer that tells whether something is so."""
    return YES if truth else NO


def in_lines(pieces):
    """Return pieces of text, one a line."""
    return "\n".join(pieces) if pieces else NONE_TOLD


def same_list(forbidden):
    """Return a list as it stands."""
    return forbidden


def meant(saying):
    """Return the list that a saying means."""
    return meaning(saying)


def both(one, other):
    """Return the list of the orders that both lists let."""
    return met(one, other)


def either(one, other):
    """Return the list of the orders that at least one of two lists lets."""
    return joined(one, other)


def turned_about(forbidden):
    """Return the list of the orders turned about."""
    return turned_list(forbidden)


def seen_mirrored(forbidden):
    """Return the list of the mirrored orders."""
    return mirrored_list(forbidden)


def inverted(forbidden):
    """Return the list of the inverse orders."""
    return inverse_list(forbidden)


def closed_up(forbidden):
    """Return the closure of a list."""
    return closure(forbidden)


def tell_list(forbidden):
    """Tell a list."""
    return show_list(forbidden)


def tell_lets(forbidden, order):
    """Tell whether a list lets an order."""
    return yes_or_no(lets(forbidden, order))


def tell_same(one, other):
    """Tell whether both lists let the same orders."""
    return yes_or_no(same(one, other))


def tell_within(one, other):
    """Tell whether all orders that the one list lets are let by the other one."""
    return yes_or_no(lies_within(one, other))


def tell_finite(forbidden):
    """Tell whether a list lets only finitely many orders."""
    return yes_or_no(is_finite(forbidden))


def tell_parting(one, other):
    """Tell the first order that just one of two lists lets."""
    order = parting(one, other)
    return NO if order is None else show_order(order)


def tell_endless(forbidden):
    """Tell the first kind of alternations that a list does not stop."""
    kind = endless(forbidden)
    return NO if kind is None else str(kind[0]) + " " + str(kind[1])


def tell_count(forbidden, n):
    """Tell how many orders of n things a list lets."""
    return str(count(forbidden, n))


def tell_rule(forbidden):
    """Tell the first counts of a list, and their rule."""
    firsts, numbers = rule(forbidden)
    told = [" ".join([str(first) for first in firsts]), " ".join([show_number(number) for number in numbers])]
    return " : ".join(told)


def tell_rate(forbidden):
    """Tell between which numbers the rate of a list lies."""
    _, low, high = rate(forbidden)
    return show_number(low) + " " + show_number(high)


def tell_nth(forbidden, n, i):
    """Tell the i-th order of n things, by words."""
    return show_order(nth(forbidden, n, i))


def tell_place(forbidden, order):
    """Tell the place of an order, by words."""
    return str(place_of(forbidden, order))


def tell_machine(forbidden):
    """Tell the machine of a list."""
    return show_machine(machine(forbidden))


def tell_shape(order):
    """Tell the shape of an order."""
    return show_shape(shape(order))


def tell_simple(forbidden, n):
    """Tell the simple orders of n things that a list lets."""
    return in_lines([show_order(order) for order in simple_let(forbidden, n)])


def tell_fate(forbidden):
    """Tell the paper of a list."""
    return show_fate(fate(forbidden))


def tell_few(forbidden):
    """Tell whether a list lets only finitely many simple orders."""
    return yes_or_no(fate(forbidden)[0] == "few")


def tell_closed(forbidden):
    """Tell whether the lot of a list is closed."""
    return yes_or_no(is_closed(forbidden))


def tell_pins(forbidden, n):
    """Tell how many pin words of n letters a list has."""
    return str(pin_count(forbidden, n))


def tell_decided(forbidden, fact):
    """Tell whether a fact is true of all orders that a list lets, or an order that breaks it."""
    kind, told = decided(forbidden, fact)
    return kind if kind == "all" else show_order(told)


def tell_true(forbidden, n, fact):
    """Tell of how many orders of n things a fact is true."""
    return str(tree_counts(forbidden, fact, n)[n])


def tell_shape_nth(forbidden, n, i):
    """Tell the i-th order of n things, by shapes."""
    return show_order(shape_nth(forbidden, None, n, i))


def tell_shape_place(forbidden, order):
    """Tell the place of an order, by shapes."""
    return str(shape_place(forbidden, None, order))


KEPT = {
    "list": same_list, "say": meant, "both": both, "either": either, "turned": turned_about, "mirrored": seen_mirrored,
    "inverse": inverted, "close": closed_up}
TOLD = {
    "show": tell_list, "lets": tell_lets, "same": tell_same, "within": tell_within, "finite": tell_finite,
    "parting": tell_parting, "endless": tell_endless, "count": tell_count, "rule": tell_rule, "rate": tell_rate,
    "nth": tell_nth, "place": tell_place, "machine": tell_machine, "shape": tell_shape, "simple": tell_simple,
    "fate": tell_fate, "few": tell_few, "closed": tell_closed, "pins": tell_pins, "decide": tell_decided,
    "true": tell_true, "shapenth": tell_shape_nth, "shapeplace": tell_shape_place}
