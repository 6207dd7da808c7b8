"""Prime moduli: what is known by one to be an integer of few digits is read off its rest, and then checked.

Each modulus is 2 to an exponent less 1, a prime of Mersenne's. The greater ones are taken where what was read off by
a smaller one turns out wrong.
"""

EXPONENTS = (127, 521, 1279, 2203, 4423)


def moduli():
    """Return the list of the moduli, ascending."""
    return [(1 << exponent) - 1 for exponent in EXPONENTS]


def inverse_by(number, modulus):
    """Return what gives 1 with a number, which is no multiple of the modulus, by the modulus."""
    high, low = modulus, number % modulus
    before, now = 0, 1
    while low > 1:
        times = high // low
        high, low = low, high - times * low
        before, now = now, before - times * now
    return now % modulus


def nearest(number, modulus):
    """Return the integer next to 0 that leaves the same rest by a modulus."""
    rest = number % modulus
    return rest - modulus if 2 * rest > modulus else rest
