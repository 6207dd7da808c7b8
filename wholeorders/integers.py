"""What counts as an integer, as a tuple of integers and as a number of things."""

from wholeorders.errors import InvalidNumber


def is_integer(told):
    """Tell whether something is an integer; True and False are none."""
    return isinstance(told, int) and not isinstance(told, bool)


def are_integers(told):
    """Tell whether something is a tuple of integers."""
    if not isinstance(told, tuple):
        return False
    for number in told:
        if not is_integer(number):
            return False
    return True


def check_number(n):
    """Raise InvalidNumber for what is no integer, or below 0."""
    if not is_integer(n) or n < 0:
        raise InvalidNumber(n)
