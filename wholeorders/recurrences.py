"""The shortest rule by which each number of a sequence comes of those ahead of it."""

from wholeorders.moduli import inverse_by, moduli, nearest


def shortest_rule(numbers):
    """Return the shortest list of integers by which a sequence of integers goes on, from as many numbers on.

    The sequence must have a rule of half as many numbers as are told; then its shortest one is of integers (Fatou).
    By a prime no longer one is found (Berlekamp, Massey): so one that is right for the integers is the shortest.
    """
    for modulus in moduli():
        rule = [nearest(number, modulus) for number in rule_by(numbers, modulus)]
        if goes_on(numbers, rule):
            return rule
    raise ArithmeticError("no modulus is great enough")


def goes_on(numbers, rule):
    """Tell whether all numbers behind the first ones come of a rule."""
    for at in range(len(rule), len(numbers)):
        if numbers[at] != sum([times * numbers[at - 1 - back] for back, times in enumerate(rule)]):
            return False
    return True


def rule_by(numbers, modulus):
    """Return the shortest rule of a sequence by a prime modulus."""
    signs = [1]
    elder = [1]
    length = 0
    gap = 1
    fault = 1
    for at in range(len(numbers)):
        wrong = sum([times * numbers[at - back] for back, times in enumerate(signs)]) % modulus
        if wrong == 0:
            gap += 1
            continue
        mended = mend(signs, elder, gap, wrong * inverse_by(fault, modulus), modulus)
        if 2 * length <= at:
            length = at + 1 - length
            elder = signs
            fault = wrong
            gap = 0
        signs = mended
        gap += 1
    return [-times for times in signs[1:]]


def mend(signs, elder, gap, times, modulus):
    """Return signs less times the elder ones, those being put back by a gap.

    There are always as many signs as the rule has numbers, and one more: the gap grows just so.
    """
    mended = signs + [0] * (gap + len(elder) - len(signs))
    for at, sign in enumerate(elder):
        mended[at + gap] = (mended[at + gap] - times * sign) % modulus
    return mended
