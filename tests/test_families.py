"""wholeorders.families: the sixteen kinds of simple orders that never end."""

import unittest

from tests.helpers import (FAMILY_LISTS, FEW_LISTS, LISTS, NO_INTEGERS, NO_LISTS, NOTHING, ROAD_LISTS, STAIRS, Case,
                           orders_to, slow_is_simple, slow_lets, slow_pattern)
from wholeorders.errors import InvalidFamily, InvalidList, InvalidNumber
from wholeorders.families import endless_kind, kinds, member, stops_kind
from wholeorders.lists import lets
from wholeorders.patterns import shows

SIXTEEN = [("between", posture) for posture in range(8)] + [
    (name, posture) for name in ("open", "parallel") for posture in (0, 1, 4, 5)]
NO_KINDS = (
    None, 3, "open", (), [], ("open",), ["open", 0], ("open", 0, 0), ("open", 2), ("open", 3), ("parallel", 6),
    ("parallel", 7), ("between", 8), ("between", -1), ("Open", 0), ("closed", 0), (0, "open"), ("open", "0"),
    ("open", None), ("open", True), ("between", False), (b"open", 0), (("open",), 0), (["open"], 0), ({}, 0),
    ("open", (0,)), (("open", 0), ("open", 1)))


def slow_member(kind, n):
    """Return the member of a kind of n, by its points."""
    name, posture = kind
    if name == "parallel":
        points = [(at, 2 * at) for at in range(1, n + 1)] + [(n + at, 2 * at - 1) for at in range(1, n + 1)]
    else:
        points = [(2 * at, at) for at in range(1, n + 1)] + [(2 * at + 1, 2 * n + 1 - at) for at in range(1, n + 1)]
        points.append((1, n + 0.5) if name == "open" else (2 * n + 0.5, 0))
    if posture % 2 == 1:
        points = [(-x, y) for x, y in points]
    if posture // 2 % 2 == 1:
        points = [(x, -y) for x, y in points]
    if posture // 4 % 2 == 1:
        points = [(y, x) for x, y in points]
    return slow_pattern([y for _, y in sorted(points)])


class KindsTest(Case):
    def test_kinds(self):
        self.assertEqual(kinds(), SIXTEEN)
        self.assertEqual(sorted(kinds()), kinds())

    def test_members(self):
        for kind in SIXTEEN:
            for n in (2, 3, 4, 5, 9, 60):
                found = member(kind, n)
                self.assertEqual(found, slow_member(kind, n))
                self.assertTrue(slow_is_simple(found))
                self.assertEqual(len(found), 2 * n if kind[0] == "parallel" else 2 * n + 1)

    def test_told_ones(self):
        self.assertEqual(member(("parallel", 0), 2), (2, 4, 1, 3))
        self.assertEqual(member(("open", 0), 2), (3, 1, 5, 2, 4))
        self.assertEqual(member(("between", 0), 2), (2, 5, 3, 1, 4))
        self.assertEqual([member(("between", posture), 2) for posture in (1, 2, 3, 4)],
                         [(4, 1, 3, 5, 2), (4, 1, 3, 5, 2), (2, 5, 3, 1, 4), (4, 1, 3, 5, 2)])
        self.assertEqual([member(("parallel", posture), 3) for posture in (1, 4, 5)],
                         [(5, 3, 1, 6, 4, 2), (4, 1, 5, 2, 6, 3), (3, 6, 2, 5, 1, 4)])

    def test_each_shows_the_members_of_fewer(self):
        for kind in SIXTEEN:
            for n in range(2, 7):
                self.assertTrue(shows(member(kind, n + 1), member(kind, n)))

    def test_errors_of_member(self):
        for told in NO_KINDS:
            self.assert_raises(InvalidFamily, told, member, told, 3)
            self.assert_raises(InvalidFamily, told, member, told, 1)
        for n in NO_INTEGERS + (1, 0, -1, -60):
            self.assert_raises(InvalidNumber, n, member, ("open", 4), n)


class StopsTest(Case):
    def test_all_patterns_of_few_things(self):
        """What a member of k + 1 does not show, greater ones do not show: looked at for patterns of up to 5 things."""
        for kind in SIXTEEN:
            for pattern in orders_to(5)[1:]:
                shown = shows(member(kind, 9), pattern)
                self.assertEqual(stops_kind((pattern,), kind), pattern if shown else None)

    def test_the_first_pattern_as_the_list_has_them(self):
        for forbidden in LISTS:
            for kind in SIXTEEN:
                shown = [pattern for pattern in forbidden if not slow_lets((pattern,), slow_member(kind, 5))]
                self.assertEqual(stops_kind(forbidden, kind), shown[0] if shown else None)
        self.assertEqual(stops_kind(((3, 2, 1), (2, 4, 1, 3), (1, 2)), ("parallel", 0)), (2, 4, 1, 3))
        self.assertEqual(stops_kind(((3, 2, 1), (1, 2), (2, 4, 1, 3)), ("parallel", 0)), (1, 2))

    def test_endless_kind(self):
        for forbidden, kind in FAMILY_LISTS:
            self.assertEqual(endless_kind(forbidden), kind)
            self.assertIsNone(stops_kind(forbidden, kind))
            self.assertTrue(lets(forbidden, member(kind, 12)))
            for other in SIXTEEN[:SIXTEEN.index(kind)]:
                self.assertIn(stops_kind(forbidden, other), forbidden)
        for forbidden in FEW_LISTS + tuple(forbidden for forbidden, _ in ROAD_LISTS):
            self.assertIsNone(endless_kind(forbidden))
        self.assertEqual({kind for _, kind in FAMILY_LISTS}, set(SIXTEEN))

    def test_edges(self):
        self.assertEqual([stops_kind((), kind) for kind in SIXTEEN], [None] * 16)
        self.assertEqual(endless_kind(()), ("between", 0))
        self.assertEqual([stops_kind(NOTHING, kind) for kind in SIXTEEN], [(1,)] * 16)
        self.assertIsNone(endless_kind(NOTHING))
        self.assertIsNone(endless_kind(STAIRS))
        self.assertEqual(stops_kind(STAIRS, ("parallel", 1)), (3, 2, 1))

    def test_errors(self):
        for told in NO_KINDS:
            self.assert_raises(InvalidFamily, told, stops_kind, ((1, 2),), told)
            self.assert_raises(InvalidFamily, told, stops_kind, (7,), told)
        for told in NO_LISTS:
            self.assert_raises(InvalidList, told, stops_kind, told, ("open", 0))
            self.assert_raises(InvalidList, told, endless_kind, told)


if __name__ == "__main__":
    unittest.main()
