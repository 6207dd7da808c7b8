"""Four simple sorters, and the orders that they sort."""

from wholeorders.errors import InvalidSorter
from wholeorders.integers import check_number
from wholeorders.lists import let_above
from wholeorders.patterns import check_order


def stacked(order):
    """Return what a stack makes of an order: all that are less leave it before a number comes."""
    left = []
    stack = []
    for number in order:
        while stack and stack[-1] < number:
            left.append(stack.pop())
        stack.append(number)
    return left + stack[::-1]


def popped(order):
    """Return what a stack makes of an order that is emptied before a number that is greater than its uppermost."""
    left = []
    stack = []
    for number in order:
        if stack and stack[-1] < number:
            left.extend(stack[::-1])
            stack = []
        stack.append(number)
    return left + stack[::-1]


def queued(order):
    """Return what two rows side by side make of an order."""
    first = []
    second = []
    for number in order:
        if fits_behind(first, number) or not fits_behind(second, number):
            first.append(number)
        else:
            second.append(number)
    return merged(first, second)


def fits_behind(row, number):
    """Tell whether a row is empty, or its last number is less than another one."""
    return len(row) == 0 or row[-1] < number


def merged(first, second):
    """Return what leaves two rows if it is always the lesser one of both first numbers."""
    left = []
    i = 0
    j = 0
    while i < len(first) and j < len(second):
        if first[i] < second[j]:
            left.append(first[i])
            i += 1
        else:
            left.append(second[j])
            j += 1
    return left + first[i:] + second[j:]


def bubbled(order):
    """Return what one held number makes of an order."""
    left = []
    held = []
    for number in order:
        held.append(number)
        if len(held) == 2:
            left.append(min(held))
            held = [max(held)]
    return left + held


MAKERS = {"stack": stacked, "popper": popped, "queues": queued, "bubble": bubbled}
LISTS = {
    "stack": ((2, 3, 1),), "popper": ((2, 3, 1), (3, 1, 2)), "queues": ((3, 2, 1),), "bubble": ((2, 3, 1), (3, 2, 1))}


def is_sorter(told):
    """Tell whether something is a sorter."""
    return isinstance(told, str) and told in MAKERS


def check_sorter(sorter):
    """Raise InvalidSorter for what is no sorter."""
    if not is_sorter(sorter):
        raise InvalidSorter(sorter)


def made_of(sorter, order):
    """Return what a sorter makes of an order, neither of them checked."""
    maker = MAKERS[sorter]
    return tuple(maker(order))


def does_sort(sorter, order):
    """Tell whether a sorter sorts an order, neither of them checked."""
    return made_of(sorter, order) == tuple(range(1, len(order) + 1))


def made(sorter, order):
    """Return what a sorter makes of an order."""
    check_sorter(sorter)
    check_order(order)
    return made_of(sorter, order)


def sorts(sorter, order):
    """Tell whether a sorter sorts an order."""
    check_sorter(sorter)
    check_order(order)
    return does_sort(sorter, order)


def list_of(sorter):
    """Return the list of which a sorter sorts just the orders that it lets."""
    check_sorter(sorter)
    return LISTS[sorter]


def passes(sorter, order):
    """Return how often an order must be led through a sorter until it is sorted, or None if that is too often."""
    check_sorter(sorter)
    check_order(order)
    goal = tuple(range(1, len(order) + 1))
    for times in range(len(order) + 1):
        if order == goal:
            return times
        order = made_of(sorter, order)
    return None


def least_unsorted(sorter, n):
    """Return the list of the orders of at most n things that are not sorted, while all smaller ones they show are."""
    check_sorter(sorter)
    check_number(n)
    found = []
    good = {(): True}
    for _ in range(n):
        # All that these orders show of fewer things is sorted.
        coming = sorted(let_above({}, good))
        found.extend([order for order in coming if not does_sort(sorter, order)])
        good = {order: True for order in coming if does_sort(sorter, order)}
    return found
