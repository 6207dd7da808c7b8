"""How fast the counts of a list with a machine grow.

The rate is a root that no other root exceeds in absolute value. So at a point above it the polynomial and all its
derivatives are above 0, and below it they are not all above 0: this tells exactly on which side of it a point lies.
"""

from math import gcd

from wholeorders.counts import integer_rule
from wholeorders.machines import check_stopping_list
from wholeorders.polynomials import common_divisor, divided, square_free, taylor_numbers

FINE = 10


def rate(forbidden):
    """Return (shape, low, high): a polynomial of which the rate is a root, and between which numbers it lies."""
    check_stopping_list(forbidden)
    shape = shape_of(forbidden)
    low, high, bits = bounds(shape)
    return tuple(shape), lowest(low, 1 << bits), lowest(high, 1 << bits)


def shape_of(forbidden):
    """Return the polynomial of the rule of a list with a machine, each root once."""
    return square_free([1] + [-times for times in integer_rule(forbidden)[1]])


def lowest(top, bottom):
    """Return a fraction in lowest terms."""
    common = gcd(top, bottom)
    return top // common, bottom // common


def side(shape, top, bits):
    """Return 1, 0 or -1 as the point, top by 2 to the power bits, is above, at or below the rate of a shape."""
    value, *slopes = taylor_numbers(shape, top, bits)
    if value < 0 or not all([slope > 0 for slope in slopes]):
        return -1
    return 1 if value > 0 else 0


def bounds(shape):
    """Return (low, high, bits): two points, by 2 to the power bits, between which the rate of a shape lies."""
    high = 1
    while side(shape, high, 0) < 0:
        high = 2 * high
    low = 0
    # The shape begins with 1, so a rate that is a fraction is an integer: it is met before the bits begin.
    while high - low > 1:
        middle = (low + high) // 2
        if side(shape, middle, 0) < 0:
            low = middle
        else:
            high = middle
    for point in (low, high):
        if side(shape, point, 0) == 0:
            return point, point, 0
    for bits in range(1, FINE + 1):
        middle = low + high
        low, high = (middle, 2 * high) if side(shape, middle, bits) < 0 else (2 * low, middle)
    return low, high, FINE


def faster(one, other):
    """Return 1, 0 or -1 as the rate of the one list is greater, the same or less than the other one's."""
    check_stopping_list(one)
    check_stopping_list(other)
    first = shape_of(one)
    second = shape_of(other)
    both = common_divisor(first, second)
    shapes = [divided(first, both)[0], both, divided(second, both)[0]]
    return 1 - holder_of_greatest(shapes)


def holder_of_greatest(shapes):
    """Return the index of the shape that has the greatest real root, no two having the same one.

    No root of them all exceeds it in absolute value. So just below it all shapes but one are above 0, with all
    their derivatives, and above it all are: the points are halved until just one shape is left.
    """
    low = 0
    high = 1
    while not_above(shapes, high, 0):
        high = 2 * high
    bits = 0
    left = not_above(shapes, low, bits)
    while len(left) != 1:
        bits += 1
        low, middle, high = 2 * low, low + high, 2 * high
        left = not_above(shapes, middle, bits)
        if left:
            low = middle
        else:
            high = middle
    return left[0]


def not_above(shapes, top, bits):
    """Return the list of the indexes of the shapes that are not above 0, with all their derivatives, at a point."""
    return [index for index, shape in enumerate(shapes) if side(shape, top, bits) <= 0]
