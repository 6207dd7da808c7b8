"""wholeorders.judges: papers of lists and machines of pin words, taken if they are right, and not if they are bent."""

import unittest

from tests import language
from tests.helpers import (FAMILY_LISTS, FEW_LISTS, LISTS, NO_LISTS, NOTHING, RISING, ROAD_LISTS, STAIRS, Case,
                           simple_to, slow_lets, slow_pin_order)
from tests.test_families import NO_KINDS, SIXTEEN, slow_member
from tests.test_pins import SIX_OF_FIVE, SOME_LISTS, spelled, states_behind
from tests.test_roads import NO_WAYS
from wholeorders.errors import InvalidList
from wholeorders.judges import judge_fate, judge_pins
from wholeorders.lists import lets
from wholeorders.pins import pin_machine, pin_road
from wholeorders.roads import fate

ELEVEN = ((1, 2, 3), (4, 3, 2, 1))
SIMPLES = fate(ELEVEN)[1]
NO_PAPERS = (
    None, 3, "", "few", (), [], ("few",), ("few", ()), ("few", (), 4, 4), ["few", (), 4], ("few", [], 4),
    ("few", (), "4"), ("few", (), None), ("few", 4, ()), ("few", None, 4), ("few", (), True), ("less", (), 4),
    (None, (), 4), ("family",), ("family", ("open", 0), 0), ("pins",), ("pins", (1,)), (("few", (), 4),),
    ("few", ("family", ("open", 0))), ("family", (), 4), ("few", (1,), 4), ("few", ((1,),), 4), ("few", ("2413",), 5))
NO_ROWS = (
    None, 3, "", (), [], [()], ((), []), (None,), ("",), (3,), ((1,),), (((1, 0),), ((1, 0),), 3),
    (((1, 1),),), (((1, -1),),), (((1, "0"),),), (((1, True),), ()), (((1, None),), ()), (((1,),), ()),
    (((1, 1, 1),), ()), (([1, 1],), ()), (((1, 1), (1, 1)), ()), (((2, 1), (1, 1)), ()), (((0, 1),), ()),
    (((5, 1),), ()), (((True, 1),), ()), ((("x", 1),), ()), (((None, 1),), ()), ((("u", 1), ("d", 1)), ()),
    ((((1,), 1),), ()), ((("ud", 1),), ()), (((1, 1), ("u", 1)), ()), ((("", 1),), ()))


def bent_few(paper):
    """Return papers of few that are not quite as a right one is."""
    _, orders, n = paper
    bent = [("few", orders, n + 1), ("few", orders, n - 1), ("few", orders, -n), ("few", orders, 10 ** 30),
            ("few", list(orders), n), ("few", orders, str(n)), ["few", orders, n], ("few", orders), ("few", n, orders),
            ("few", orders + ((2, 4, 1, 3),), n), ("few", orders + ((1, 2, 3, 4),), n), ("few", orders + ((),), n),
            ("few", orders + (max(simple_to(7)),), n)]
    for at, order in enumerate(orders):
        bent.append(("few", orders[:at] + orders[at + 1:], n))
        bent.append(("few", orders[:at] + orders[at:at + 2][::-1] + orders[at + 2:], n))
        bent.append(("few", orders[:at] + (order,) + orders[at:], n))
        bent.append(("few", orders[:at] + (list(order),) + orders[at + 1:], n))
        bent.append(("few", orders[:at] + (order[::-1] + (0,),) + orders[at + 1:], n))
        bent.append(("few", orders[:at] + (tuple(True if k == 1 else k for k in order),) + orders[at + 1:], n))
    return [told for told in bent if told != paper or repr(told) != repr(paper)]


def bent_rows(rows):
    """Return rows that differ from others by one step less, one more, or one that leads elsewhere."""
    bent = []
    for at, row in enumerate(rows):
        for k, (letter, after) in enumerate(row):
            bent.append(rows[:at] + (row[:k] + row[k + 1:],) + rows[at + 1:])
            for other in {(after + 1) % len(rows), 0, len(rows) - 1} - {after}:
                bent.append(rows[:at] + (row[:k] + ((letter, other),) + row[k + 1:],) + rows[at + 1:])
        letters = [letter for letter, _ in row]
        for letter in (1, 2, 3, 4) if at == 0 else "dlru":
            if letter not in letters:
                bent.append(rows[:at] + (tuple(sorted(row + ((letter, at),))),) + rows[at + 1:])
    return bent


def unfolded(rows):
    """Return a machine that is not least: each state stands there twice, and one that is not reached behind them."""
    many = len(rows)
    twice = rows + tuple(tuple((letter, (after + many) % (2 * many)) for letter, after in row) for row in rows)
    return twice + ((("d", 0), ("u", 2 * many)),)


class FewTest(Case):
    def test_right_papers(self):
        for forbidden in FEW_LISTS:
            self.assertIs(judge_fate(forbidden, fate(forbidden)), True)

    def test_bent_papers(self):
        for forbidden in (ELEVEN, RISING, NOTHING, FEW_LISTS[6], FEW_LISTS[9], FEW_LISTS[12]):
            for paper in bent_few(fate(forbidden)):
                self.assertIs(judge_fate(forbidden, paper), False, paper)

    def test_papers_of_other_lists(self):
        papers = [fate(forbidden) for forbidden in FEW_LISTS]
        for other in LISTS + FEW_LISTS:
            let = tuple(order for order in simple_to(7) if lets(other, order))
            for paper in papers:
                if paper[2] <= 8:
                    self.assertIs(judge_fate(other, paper), paper[1] == let)

    def test_lists_that_let_more(self):
        for forbidden, _ in FAMILY_LISTS + ROAD_LISTS:
            for n in range(4, 8):
                let = tuple(order for order in simple_to(n) if slow_lets(forbidden, order))
                self.assertIs(judge_fate(forbidden, ("few", let, n + 1)), False)
            self.assertIs(judge_fate(forbidden, ("few", (), 4)), False)


class EndlessTest(Case):
    def test_kinds(self):
        for forbidden in LISTS + FEW_LISTS + tuple(told[0] for told in FAMILY_LISTS + ROAD_LISTS):
            for kind in SIXTEEN:
                right = lets(forbidden, slow_member(kind, 9))
                self.assertIs(judge_fate(forbidden, ("family", kind)), right)
        for kind in SIXTEEN:
            self.assertIs(judge_fate((), ("family", kind)), True)
            self.assertIs(judge_fate(NOTHING, ("family", kind)), False)
        for kind in NO_KINDS:
            self.assertIs(judge_fate((), ("family", kind)), False)

    def test_roads(self):
        for forbidden, (seed, way) in ROAD_LISTS:
            self.assertIs(judge_fate(forbidden, ("pins", seed, way)), True)
            self.assertIs(judge_fate(forbidden, ("pins", seed + way + way, way + way)), True)
            self.assertIs(judge_fate(forbidden, ("pins", seed + way[:1], way[1:] + way[:1])), True)
            self.assertIs(judge_fate(forbidden, ["pins", seed, way]), False)
            self.assertIs(judge_fate(forbidden, ("pins", seed)), False)
            self.assertIs(judge_fate(forbidden, ("pins", list(seed), way)), False)
            self.assertIs(judge_fate(forbidden, ("pins", seed, list(way))), False)
            self.assertIs(judge_fate(forbidden, ("pins", (), seed + way)), False)
            self.assertIs(judge_fate(forbidden, ("pins", seed, ())), False)
            self.assertIs(judge_fate(forbidden, ("pins", seed, way[:1])), False)

    def test_roads_of_all_lists(self):
        """A word of 24 letters more than a road's seed stays let just if all further ones do, of such lists."""
        roads = [told[1] for told in ROAD_LISTS] + [
            ((letter,), way) for letter in (1, 2, 3, 4) for way in (("u", "r"), ("l", "u"), ("r", "d", "l", "u"))]
        for forbidden in LISTS + FEW_LISTS + tuple(told[0] for told in FAMILY_LISTS + ROAD_LISTS):
            for seed, way in roads:
                right = lets(forbidden, slow_pin_order(seed + way * 5))
                self.assertIs(judge_fate(forbidden, ("pins", seed, way)), right)

    def test_what_is_no_road(self):
        for seed, way in NO_WAYS:
            self.assertIs(judge_fate((), ("pins", seed, way)), False)

    def test_long_roads(self):
        self.assertIs(judge_fate((), ("pins", (1, "u", "r", "d", "l") + ("u", "l") * 4, ("u", "r", "d", "l") * 2)), True)
        way = ("r", "u") * 5 + ("l", "u")
        self.assertIs(judge_fate(((3, 2, 1),), ("pins", (1, "r", "u") * 1 + ("r", "u") * 4, ("r", "u") * 6)), True)
        self.assertIs(judge_fate(((3, 2, 1),), ("pins", (1, "r", "u"), way)), False)

    def test_exactly_one_of_few_and_the_others(self):
        for forbidden in FEW_LISTS:
            self.assertIsNone(pin_road(forbidden))
            for kind in SIXTEEN:
                self.assertIs(judge_fate(forbidden, ("family", kind)), False)
            for _, (seed, way) in ROAD_LISTS:
                self.assertIs(judge_fate(forbidden, ("pins", seed, way)), False)

    def test_what_is_no_paper(self):
        for told in NO_PAPERS:
            for forbidden in ((), STAIRS, ((2, 1),)):
                self.assertIs(judge_fate(forbidden, told), False, told)

    def test_errors(self):
        for told in NO_LISTS:
            self.assert_raises(InvalidList, told, judge_fate, told, ("few", (), 4))
            self.assert_raises(InvalidList, told, judge_fate, told, None)
            self.assert_raises(InvalidList, told, judge_pins, told, ((),))
            self.assert_raises(InvalidList, told, judge_pins, told, None)


class PinsTest(Case):
    def test_right_machines(self):
        for forbidden in SOME_LISTS + (SIX_OF_FIVE,) + tuple(told[0] for told in ROAD_LISTS + FAMILY_LISTS):
            rows = pin_machine(forbidden)
            self.assertIs(judge_pins(forbidden, rows), True)
            self.assertIs(judge_pins(forbidden[::-1] + forbidden, rows), True)

    def test_machines_that_are_not_least(self):
        for forbidden in SOME_LISTS:
            self.assertIs(judge_pins(forbidden, unfolded(pin_machine(forbidden))), True)
        self.assertIs(judge_pins(NOTHING, ((), (("u", 0),), ((1, 2), (4, 0)))), True)

    def test_bent_machines(self):
        for forbidden in (NOTHING, RISING, (), STAIRS, ((2, 3, 1),), ROAD_LISTS[1][0]):
            rows = pin_machine(forbidden)
            for told in bent_rows(rows):
                # A state that only longer words than these tell from another one is not bent at all, but the same.
                alike = all(spelled(told, n) == spelled(rows, n) for n in range(9))
                self.assertIs(judge_pins(forbidden, told), alike, told)

    def test_machines_of_other_lists(self):
        rows = {forbidden: pin_machine(forbidden) for forbidden in SOME_LISTS}
        for one in SOME_LISTS:
            for other in SOME_LISTS:
                self.assertIs(judge_pins(one, rows[other]), rows[one] == rows[other])

    def test_words_that_are_no_pin_words(self):
        around = (("d", 2), ("l", 3), ("r", 3), ("u", 2))
        right = (((1, 1), (2, 1), (3, 1), (4, 1)), around, (("l", 3), ("r", 3)), (("d", 2), ("u", 2)))
        self.assertIs(judge_pins((), right), True)
        for told in (right[:2] + (around, around), right[:2] + (right[0], right[3]), (around,) + right[1:],
                     right[:1] + ((("d", 2), ("l", 3), ("r", 3), ("u", 0)),) + right[2:]):
            self.assertIs(judge_pins((), told), False)

    def test_what_is_no_machine(self):
        for told in NO_ROWS:
            self.assertIs(judge_pins(((1, 2), (2, 1)), told), False, told)
        rows = pin_machine(STAIRS)
        for told in (list(rows), tuple(list(row) for row in rows), rows + (None,), rows + (((1, 0), ("u", 0)),),
                     rows + ((("u", 0), ("d", 0)),), rows + ((("u", 0), ("u", 0)),), rows + ((("u", 99),),)):
            self.assertIs(judge_pins(STAIRS, told), False)

    def test_as_many_states_as_there_may_be(self):
        forbidden = ((4, 5, 3, 6, 1, 2), (1, 6, 4, 5, 2, 3), (2, 4, 1, 6, 5, 3, 7), (3, 1, 5, 2, 6, 4))
        rows = pin_machine(forbidden)
        self.assertGreater(len(rows), 100)
        self.assertIs(judge_pins(forbidden, rows), True)
        last = [at for at in range(len(rows)) if rows[at] and at in states_behind(rows, 0)][-1]
        self.assertIs(judge_pins(forbidden, rows[:last] + (rows[last][1:],) + rows[last + 1:]), False)


class OwnRowsTest(Case):
    def test_they_do_not_ask_what_they_judge(self):
        imports = language.imports_of()
        asked = {"judges"}
        while any(imports[name] - asked for name in asked):
            asked |= {other for name in asked for other in imports[name]}
        self.assertFalse(asked & {"pins", "tracks", "roads", "steps", "machines", "automata"})


if __name__ == "__main__":
    unittest.main()
