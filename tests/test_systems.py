"""wholeorders.systems: systems of sums of products, and that of a list."""

import random
import unittest

from tests.helpers import FAMILY_LISTS, FEW_LISTS, NO_LISTS, NO_NUMBERS, NOTHING, RISING, ROAD_LISTS, STAIRS, Case
from wholeorders.errors import InvalidList, InvalidNumber, InvalidPaper, NotFew, TooMany
from wholeorders.roads import fate
from wholeorders.systems import is_founded, is_system, solved, system
from wholeorders.treecounts import tree_counts

BALL = (((1, -2, -1), (1, 0, 0)),)
FIBONACCI = (((1, -2, 0), (1, -2, 1), (1, -1, -1)), ((1, -2, 0),))
UNSORTED = (
    BALL, ((),), (((1, -1, -1),),), (((1, -2, -2),),), (((3, -2, -1),),), (((2, -2, -1), (5, -2, 0)),), ((), ()),
    (((1, -1, -1), (1, -2, 0)),), (((1, -1, 1),), ((1, -1, -1), (1, -2, 1))), (((1, 1, 2),), ((1, -2, 0),), ((2, -1, -1),)),
    (((1, -2, 0), (2, -1, -1)),), (((1, -1, 1), (4, -2, 0)), ((1, -2, -1), (1, 1, 1))), FIBONACCI,
    (((1, -1, 1), (1, 1, 1), (2, -1, -1)), ((1, -2, 0), (3, -1, -1))), (((7, -2, 1),), ((1, -1, -1), (1, -2, 0), (1, 0, 0))),
    (((10 ** 30, -2, -1),),), (((1, 1, 1),), ((1, 2, 2),), ((2, -1, -1), (1, -2, 2))))
SYSTEMS = tuple(tuple(tuple(sorted(row)) for row in told) for told in UNSORTED)
UNSORTED_ROUND = (
    (((1, -1, 0),),), (((1, -1, 1),), ((1, -1, 0),)), (((1, 0, 1),), ((1, -1, -1),)), (((1, -1, -1), (1, 0, 0)),),
    (((1, -2, -1),), ((1, -1, 1),)), (((1, 1, 2),), ((1, -1, -1),), ((1, -1, 0), (1, -2, -1))),
    (((1, -1, -1), (1, -1, 0)),), ((), ((1, 1, 2),), ((3, -1, -1),)))
ROUND = tuple(tuple(tuple(sorted(row)) for row in told) for told in UNSORTED_ROUND)
NO_SYSTEMS = (
    None, 3, "", "x", (), [], [()], ([],), (None,), (3,), ("",), ((3,),), (((1, -1),),), (((1, -1, -1, 0),),),
    (((0, -1, -1),),), (((-1, -1, -1),),), (((1, -3, -1),),), (((1, -1, 1),),), (((1, 0, -1),),), (((1, -1, -2),),),
    (((1, -1, -1), (1, -1, -1)),), (((1, -2, -1), (1, -2, -2)),), (((2, -1, -1), (1, 0, 0)),), ([(1, -1, -1)],),
    (([1, -1, -1],),), (((True, -1, -1),),), (((1, -1, False),),), (((1, "0", 0),),), (((1, None, 0),),), ((), [], ()),
    (((1, -2, -1),), ((1, 2, 2),)), {})


def slow_solved(told, n):
    """Return the sums of a system up to a power, by putting in what is known until nothing changes any more."""
    sums = [[0] * (n + 1) for _ in told]
    for _ in range((n + 2) * (len(told) + 1)):
        known = sums + [[0, 1] + [0] * n, [1] + [0] * n]
        sums = [[sum(times * sum(known[v][i] * known[w][power - i] for i in range(power + 1)) for times, v, w in row)
                 for power in range(n + 1)] for row in told]
    return sums[0]


class SystemTest(Case):
    def test_which_are_systems(self):
        for told in SYSTEMS + ROUND:
            self.assertIs(is_system(told), True, told)
        for told in NO_SYSTEMS:
            self.assertIs(is_system(told), False, told)
        self.assertIs(is_system((((1, -1, -1), (2, -1, -1)),)), True)

    def test_which_are_well_founded(self):
        for told in SYSTEMS:
            self.assertIs(is_founded(told), True, told)
        for told in ROUND:
            self.assertIs(is_founded(told), False, told)

    def test_sums(self):
        for told in SYSTEMS:
            for n in (0, 1, 9):
                self.assertEqual(solved(told, n), slow_solved(told, n))

    def test_told_ones(self):
        self.assertEqual(solved(BALL, 6), [0, 1, 1, 2, 5, 14, 42])
        self.assertEqual(solved((((1, -2, 0), (1, -1, -1)),), 5), [1] * 6)
        self.assertEqual(solved(FIBONACCI, 8), [1, 1, 2, 3, 5, 8, 13, 21, 34])
        self.assertEqual(solved((((1, 1, 1),), ((1, -2, 1), (2, -1, -1))), 3), [4, 8, 12, 16])
        self.assertEqual(solved((((10 ** 30, -2, -1),),), 2), [0, 10 ** 30, 0])
        self.assertEqual(solved(((),), 60), [0] * 61)
        ball = [0, 1]
        for n in range(1, 60):
            ball.append(ball[-1] * (4 * n - 2) // (n + 1))
        self.assertEqual(solved(BALL, 60), ball)

    def test_chance_systems(self):
        chance = random.Random(8)
        found = {True: 0, False: 0}
        for _ in range(300):
            many = chance.randint(1, 4)
            told = tuple(tuple(sorted({(chance.randint(1, 3),) + tuple(sorted((chance.randint(-2, many - 1), chance.randint(
                -2, many - 1)))) for _ in range(chance.randint(0, 2))})) for _ in range(many))
            self.assertIs(is_system(told), True)
            right = slow_is_founded(told)
            found[right] += 1
            self.assertIs(is_founded(told), right)
            if right:
                self.assertEqual(solved(told, 5), slow_solved(told, 5))
        self.assertGreater(min(found.values()), 30)

    def test_sixty_unknowns(self):
        told = tuple(((1, -2, 0), (1, -1, at + 1)) for at in range(59)) + (((1, -2, -1),),)
        self.assertEqual(solved(told, 12), slow_solved(told, 12))
        self.assertIs(is_founded(told[:-1] + (((1, -1, 0),),)), False)

    def test_errors(self):
        for told in NO_SYSTEMS:
            self.assert_raises(InvalidPaper, told, is_founded, told)
            self.assert_raises(InvalidPaper, told, solved, told, -1)
        for told in ROUND:
            self.assert_raises(InvalidPaper, told, solved, told, -1)
        for n in NO_NUMBERS:
            self.assert_raises(InvalidNumber, n, solved, BALL, n)


def slow_is_founded(told):
    """Tell whether no steps lead from an unknown back to it, by all ways that are short enough."""
    bare = {-1}
    for _ in told:
        bare |= {at for at, row in enumerate(told) if any(v in bare and w in bare for _, v, w in row)}
    steps = {at: {one for _, v, w in row for one, other in ((v, w), (w, v)) if one >= 0 and other in bare}
             for at, row in enumerate(told)}
    reached = dict(steps)
    for _ in told:
        reached = {at: reached[at] | {far for near in reached[at] for far in steps[near]} for at in reached}
    return all(at not in reached[at] for at in reached)


class OfListTest(Case):
    def test_counts_are_those_of_the_list(self):
        for forbidden in FEW_LISTS[:13]:
            told = system(forbidden)
            self.assertIs(is_system(told), True)
            self.assertIs(is_founded(told), True)
            self.assertEqual(solved(told, 16)[1:], tree_counts(forbidden, None, 16)[1:])
            self.assertEqual(solved(told, 16)[0], 0)

    def test_told_ones(self):
        self.assertEqual(solved(system(RISING), 5), [0, 1, 1, 1, 1, 1])
        self.assertEqual(solved(system(NOTHING), 3), [0, 0, 0, 0])
        self.assertEqual(solved(system(((1, 2), (2, 1))), 3), [0, 1, 0, 0])
        self.assertEqual(solved(system(((2, 3, 1),)), 60)[1:], tree_counts(((2, 3, 1),), None, 60)[1:])

    def test_errors(self):
        for told in NO_LISTS:
            self.assert_raises(InvalidList, told, system, told)
        for forbidden, _ in FAMILY_LISTS + ROAD_LISTS:
            self.assert_raises(NotFew, fate(forbidden), system, forbidden)
        self.assert_raises(TooMany, 300, system, ((1, 2, 3, 4, 5), (5, 4, 3, 2, 1)))
        self.assertEqual(fate(STAIRS)[0], "pins")


if __name__ == "__main__":
    unittest.main()
