"""Polynomials with integers, as lists, highest power first, the first number 1 where nothing else is said."""

from wholeorders.moduli import inverse_by, moduli, nearest


def derivative(polynomial):
    """Return the derivative; its first number is the degree."""
    high = len(polynomial) - 1
    return [number * (high - at) for at, number in enumerate(polynomial[:-1])]


def divided(polynomial, divisor):
    """Return the quotient and the rest by a divisor whose first number is 1."""
    rest = list(polynomial)
    quotient = []
    for at in range(len(polynomial) - len(divisor) + 1):
        times = rest[at]
        quotient.append(times)
        if times:
            for back, number in enumerate(divisor):
                rest[at + back] -= times * number
    return quotient, rest[len(quotient):]


def common_divisor(one, other):
    """Return the greatest common divisor; the other one may have any first number, and is not 0.

    By a prime it is of no smaller degree, and so the right one if what is read off divides both.
    """
    for modulus in moduli():
        found = [nearest(number, modulus) for number in common_by(one, other, modulus)]
        if not any(divided(one, found)[1]) and not any(divided(other, found)[1]):
            return found
    raise ArithmeticError("no modulus is great enough")


def common_by(one, other, modulus):
    """Return the greatest common divisor by a prime modulus."""
    high = one
    low = monic_by(other, modulus)
    while low:
        rest = rest_by(high, low, modulus)
        high = low
        low = monic_by(rest, modulus)
    return high


def monic_by(polynomial, modulus):
    """Return a polynomial by a prime modulus, divided by its first number; [] of 0."""
    numbers = [number % modulus for number in polynomial]
    start = 0
    while start < len(numbers) and numbers[start] == 0:
        start += 1
    if start == len(numbers):
        return []
    times = inverse_by(numbers[start], modulus)
    return [number * times % modulus for number in numbers[start:]]


def rest_by(polynomial, divisor, modulus):
    """Return the rest by a divisor whose first number is 1, by a modulus."""
    rest = list(polynomial)
    many = max(0, len(polynomial) - len(divisor) + 1)
    for at in range(many):
        times = rest[at] % modulus
        for back, number in enumerate(divisor):
            rest[at + back] = (rest[at + back] - times * number) % modulus
    return rest[many:]


def square_free(polynomial):
    """Return the polynomial that has the same roots, each once."""
    return divided(polynomial, common_divisor(polynomial, derivative(polynomial)))[0]


def taylor_numbers(polynomial, top, bits):
    """Return the value at a point, top by 2 to the power bits, and its derivatives, each times a number above 0.

    What follows the first one that is below 0 is left out: it takes the longest, and is not asked for.
    """
    numbers = [number << bits * at for at, number in enumerate(polynomial)]
    found = []
    for end in range(len(numbers), 0, -1):
        for at in range(1, end):
            numbers[at] += numbers[at - 1] * top
        found.append(numbers[end - 1])
        if found[-1] < 0:
            break
    return found
