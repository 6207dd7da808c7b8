"""wholeorders.roads: whether a list lets few simple orders, and along which kind or road they grow if not."""

import unittest

from tests.helpers import (FAMILY_LISTS, FEW_LISTS, LISTS, NO_LISTS, NO_NUMBERS, NOTHING, ROAD_LISTS, STAIRS, Case,
                           all_simple, slow_is_simple, slow_lets, slow_pin_order)
from tests.test_families import NO_KINDS, slow_member
from wholeorders.errors import InvalidList, InvalidNumber, InvalidPaper, NotFew, TooMany
from wholeorders.families import kinds, stops_kind
from wholeorders.lists import lets
from wholeorders.patterns import shows
from wholeorders.pins import pin_road
from wholeorders.roads import fate, grown, longest, simples
from wholeorders.steps import one_more

ELEVEN = ((1, 2, 3), (4, 3, 2, 1))
MANY = ((1, 2, 3, 4, 5), (5, 4, 3, 2, 1))
NO_WAYS = (
    ((), ("l", "d")), ((1,), ()), ((1, "r", "d"), ("d", "l")), ((1, "r", "d"), ("l",)), ((1, "r", "d"), ("l", "d", "l")),
    ((1, "r"), ("l", "d")), ((5,), ("l", "d")), (("u",), ("l", "d")), ((1, "r", "d"), ("l", "u", "u", "l")),
    ([1, "r", "d"], ("l", "d")), ((1, "r", "d"), ["l", "d"]), ((1, "r", "d"), "ld"), ("1rd", ("l", "d")),
    (None, ("l", "d")), ((1, "r", "d"), None), ((True,), ("l", "d")), ((1,), (1, "u")), ((1, "r", "d"), ("l", "x")),
    (1, ("l", "d")), ((1, "r", "d"), ("ld",)), ((1, "u"), ("l", "d", "u")))
NO_PAPERS = tuple(("pins",) + way for way in NO_WAYS) + tuple(("family", kind) for kind in NO_KINDS) + (
    None, 3, "", "family", (), [], ("family",), ("pins",), ["family", ("open", 0)], ("families", ("open", 0)),
    ("family", ("open", 0), ()), ("few", (), 4), ("few", ((2, 4, 1, 3),), 5), ("pins", ((1,), ("u", "l"))),
    ("pins", (1,), ("u", "l"), 3), ["pins", (1,), ("u", "l")], ("family", (1,), ("u", "l")), ("pins", ("open", 0)),
    (("open", 0),), (None, ("open", 0)), (None, (1,), ("u", "l")))


def slow_few(forbidden):
    """Return (orders, n) of a list with few simple orders, by steps of one thing and the parallel kinds alone."""
    rows = {3: [], 4: [order for order in all_simple(4) if slow_lets(forbidden, order)]}
    n = 4
    while rows[n] or rows[n - 1] or n == 4:
        n += 1
        found = {more for order in rows[n - 1] for more in one_more(order) if slow_is_simple(more)}
        if n % 2 == 0:
            found |= {slow_member(("parallel", posture), n // 2) for posture in (0, 1, 4, 5)}
        rows[n] = sorted(order for order in found if lets(forbidden, order))
    return tuple(order for many in range(4, n) for order in rows[many]), n - 1


class FateTest(Case):
    def test_few(self):
        for forbidden in FEW_LISTS:
            orders, n = slow_few(forbidden)
            self.assertEqual(fate(forbidden), ("few", orders, n))
            self.assertEqual(simples(forbidden), orders)
            self.assertEqual(longest(forbidden), max(map(len, orders), default=0))
            for many in range(4, 8):
                let = [order for order in all_simple(many) if lets(forbidden, order)]
                self.assertEqual([order for order in orders if len(order) == many], let)
                if many >= n:
                    self.assertEqual(let, [])
            self.assertIsNone(pin_road(forbidden))
            self.assertNotIn(None, [stops_kind(forbidden, kind) for kind in kinds()])

    def test_families(self):
        for forbidden, kind in FAMILY_LISTS:
            paper = ("family", kind)
            self.assertEqual(fate(forbidden), paper)
            self.assertIsNone(longest(forbidden))
            self.assert_raises(NotFew, paper, simples, forbidden)

    def test_pins(self):
        for forbidden, (seed, way) in ROAD_LISTS:
            paper = ("pins", seed, way)
            self.assertEqual(fate(forbidden), paper)
            self.assertIsNone(longest(forbidden))
            self.assert_raises(NotFew, paper, simples, forbidden)

    def test_of_all_lists_the_told_one_is_right(self):
        """None are let of two neighbouring numbers of things from four on exactly if the told paper is of few."""
        for forbidden in LISTS + FEW_LISTS + tuple(told[0] for told in FAMILY_LISTS + ROAD_LISTS):
            paper = fate(forbidden, most=2000)
            let = [any(lets(forbidden, order) for order in all_simple(n)) for n in range(4, 8)]
            ends = any(not let[at] and not let[at + 1] for at in range(3))
            if paper[0] == "few":
                self.assertEqual(ends, paper[2] <= 6)
            else:
                self.assertFalse(ends)
                for order in grown(paper, 4):
                    self.assertTrue(slow_is_simple(order))
                    self.assertTrue(lets(forbidden, order))

    def test_told_ones(self):
        self.assertEqual(fate(((2, 3, 1),)), ("few", (), 4))
        self.assertEqual(fate(NOTHING), ("few", (), 4))
        self.assertEqual(fate(()), ("family", ("between", 0)))
        self.assertEqual(fate(STAIRS), ("pins", (1, "r", "d"), ("l", "d")))
        self.assertEqual(fate(STAIRS + ((2, 4, 1, 5, 3),)), ("few", ((2, 4, 1, 3), (3, 1, 4, 2), (3, 1, 5, 2, 4)), 6))
        self.assertEqual([longest(ELEVEN), len(simples(ELEVEN)), fate(ELEVEN)[2]], [6, 11, 7])
        self.assertEqual([longest(NOTHING), simples(NOTHING)], [0, ()])

    def test_a_number_of_things_of_which_none_is_let_below_one_that_has_some(self):
        lone = ((2, 5, 3, 1, 4), (4, 1, 3, 5, 2), (3, 1, 5, 2, 4), (2, 4, 1, 5, 3), (3, 5, 1, 4, 2), (4, 2, 5, 1, 3),
                (2, 4, 6, 8, 1, 3, 5, 7), (7, 5, 3, 1, 8, 6, 4, 2), (4, 8, 3, 7, 2, 6, 1, 5), (5, 1, 6, 2, 7, 3, 8, 4))
        paper = fate(lone)
        self.assertEqual([len(order) for order in paper[1]], [4, 4, 6, 6, 6, 6])
        self.assertEqual(paper[2], 7)

    def test_most(self):
        for function in (fate, simples, longest):
            self.assertEqual(function(ELEVEN, most=11), function(ELEVEN))
            self.assertEqual(function(ELEVEN, most=10 ** 30), function(ELEVEN))
            for most in (0, 1, 10):
                self.assert_raises(TooMany, most, function, ELEVEN, most=most)
            self.assertEqual(function(((2, 3, 1),), most=0), function(((2, 3, 1),)))
            self.assert_raises(TooMany, 300, function, MANY)
            self.assert_raises(TooMany, 3, function, MANY, most=3)
        self.assertEqual(fate(STAIRS, most=0), fate(STAIRS))
        self.assertIsNone(longest(STAIRS, most=0))
        self.assert_raises(NotFew, fate(STAIRS), simples, STAIRS, most=0)

    def test_at_the_bound(self):
        forbidden = ((1, 2, 3, 4), (4, 3, 1, 2), (4, 2, 1, 3, 5))
        orders, n = slow_few(forbidden)
        self.assertEqual([len(orders), n], [292, 12])
        self.assertEqual(fate(forbidden), ("few", orders, n))
        self.assert_raises(TooMany, 291, fate, forbidden, most=291)

    def test_errors(self):
        for function in (fate, simples, longest):
            for told in NO_LISTS:
                self.assert_raises(InvalidList, told, function, told)
                self.assert_raises(InvalidList, told, function, told, most=-1)
            for most in NO_NUMBERS:
                self.assert_raises(InvalidNumber, most, function, ELEVEN, most=most)
                self.assert_raises(InvalidNumber, most, function, STAIRS, most=most)
                self.assert_raises(InvalidNumber, most, function, (), most=most)
            with self.assertRaises(TypeError):
                function(ELEVEN, 300)


class GrownTest(Case):
    def test_along_kinds(self):
        for kind in kinds():
            self.assertEqual(grown(("family", kind), 8), tuple(slow_member(kind, n) for n in range(2, 10)))
            self.assertEqual(grown(("family", kind), 0), ())

    def test_along_roads(self):
        roads = [told[1] for told in ROAD_LISTS]
        roads += [((1,), ("u", "l")), ((3,), ("r", "d", "l", "d")), ((2, "u", "r", "d", "l", "d"), ("l", "d")),
                  ((4, "l"), ("d", "l", "u", "l")), ((1, "u", "r", "u", "r"), ("d", "r"))]
        for seed, way in roads:
            orders = []
            word = seed
            while len(orders) < 8:
                if len(word) >= 5:
                    rest = [slow_pin_order(word, fewer) for fewer in ((), (0,), (1,))]
                    orders.append([order for order in rest if slow_is_simple(order)][0])
                word += way
            for n in range(9):
                self.assertEqual(grown(("pins", seed, way), n), tuple(orders[:n]))
            for ahead, behind in zip(orders, orders[1:]):
                self.assertLess(len(ahead), len(behind))
                self.assertTrue(shows(behind, ahead) or len(ahead) > 12)

    def test_told_ones(self):
        self.assertEqual(grown(fate(STAIRS), 2), ((3, 1, 5, 2, 4), (3, 1, 5, 2, 7, 4, 6)))
        self.assertEqual(grown(("family", ("parallel", 0)), 2), ((2, 4, 1, 3), (2, 4, 6, 1, 3, 5)))

    def test_errors(self):
        for told in NO_PAPERS:
            self.assert_raises(InvalidPaper, told, grown, told, 2)
            self.assert_raises(InvalidPaper, told, grown, told, -1)
        for forbidden in FEW_LISTS[:4]:
            self.assert_raises(InvalidPaper, fate(forbidden), grown, fate(forbidden), 2)
        for n in NO_NUMBERS:
            self.assert_raises(InvalidNumber, n, grown, fate(STAIRS), n)
            self.assert_raises(InvalidNumber, n, grown, fate(()), n)


if __name__ == "__main__":
    unittest.main()
