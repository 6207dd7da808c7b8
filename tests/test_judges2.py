"""wholeorders.judges2: a judge of papers of facts takes just the right ones."""

import random
import unittest

from tests.helpers import FAMILY_LISTS, NO_LISTS, NOTHING, RISING, ROAD_LISTS, STAIRS, TWO, Case
from tests.slow_facts import EVEN, NO_FACTS, slow_truth
from tests.slow_tables import (CROSSED, ELEVEN, NO_SIMPLE_LISTS, TABLE_FACTS, TABLE_PAIRS, all_put, let_to,
                               slow_closed, slow_nodes)
from tests.test_traits import bent_row, no_rows
from wholeorders.errors import InvalidFact, InvalidList, NotFew, TooMany
from wholeorders.judges2 import judge_fact
from wholeorders.roads import fate
from wholeorders.tables import decided, table
from wholeorders.traits import is_let

FALL = ((2, 3, 1),)
NO_PAPERS = (None, 3, "", "all", (), [], ("all",), ("breaks",), ("all", ()), ("all", None), ("all", 3), ("all", "01"),
             ("all", (None,)), ("all", ((),)), ("breaks", None), ("breaks", ()), ("breaks", (1, 3)), ("breaks", [1]),
             ("breaks", "1"), ("breaks", (True,)), ("breaks", 1), ("few", (), 4), ("none", ()), (None, ()), ((), "all"))


def bent(rows):
    """Return papers of rows that are bent: none of them is right, whichever rows there are."""
    found = [rows + rows[-1:], rows[:1] + rows, list(rows), rows[::-1] if len(rows) > 1 else list(rows)]
    for at in range(len(rows)):
        found.append(rows[:at] + rows[at:at + 1] + rows[at:])
        found.append(rows[:at] + (list(rows[at]),) + rows[at + 1:])
        found.append(rows[:at] + (rows[at][:2] + (list(rows[at][2]),),) + rows[at + 1:])
    for at in range(1, len(rows)):
        found.append(rows[:at - 1] + (rows[at], rows[at - 1]) + rows[at + 1:])
    return found


class AllTest(Case):
    def test_exactly_one_paper_and_its_bent_ones(self):
        for forbidden, fact in TABLE_PAIRS:
            paper = decided(forbidden, fact)
            self.assertIs(judge_fact(forbidden, fact, paper), True)
            rows = table(forbidden, fact)
            if paper[0] == "breaks":
                self.assertIs(judge_fact(forbidden, fact, ("all", rows)), False)
            else:
                for order in let_to(forbidden, 3):
                    self.assertIs(judge_fact(forbidden, fact, ("breaks", order)), False)
                step = max(1, len(rows) // 3)
                for at in range(0, len(rows), step):
                    self.assertIs(judge_fact(forbidden, fact, ("all", rows[:at] + rows[at + 1:])), False)
                few = bent(rows) if rows else []
                for told in few[:4] + few[4::step]:
                    self.assertIs(judge_fact(forbidden, fact, ("all", told)), False)
                self.assertIs(judge_fact(forbidden, fact, ["all", rows]), False)
                self.assertIs(judge_fact(forbidden, fact, ("all", rows, ())), False)

    def test_one_row_more(self):
        """More rows are right if they are closed too: so say all ways to put them together."""
        chance = random.Random(4)
        found = {True: 0, False: 0}
        for forbidden in NO_SIMPLE_LISTS[:5]:
            for fact in TABLE_FACTS[4:6] + (("least", "parts", 0),):
                rows = table(forbidden, fact)
                more = [bent_row(chance, forbidden, fact) for _ in range(6)]
                more += [(3,) + row[1:] for row in rows] + [(row[0], row[1][1:], row[2]) for row in rows]
                more += [(row[0], (), row[2]) for row in rows[:1]]
                for row in more:
                    told = tuple(sorted(set(rows + (row,))))
                    right = slow_closed(forbidden, fact, slow_nodes(forbidden, 3), told)
                    self.assertIs(judge_fact(forbidden, fact, ("all", told)), right)
                    found[right] += told != rows
        self.assertGreater(min(found.values()), 10)

    def test_rows_that_do_not_show_one_thing(self):
        """Beside such a row may be let what is barred beside all others: it must be put together too."""
        fact = ("least", "things", 0)
        for forbidden in (((1, 2, 3), (2, 1)), ((2, 1), (1, 2, 3, 4)), ((1, 2), (3, 2, 1))):
            nodes = slow_nodes(forbidden, 3)
            numbers = (("things", 0, 0),)
            rows = set(table(forbidden, fact)) | {(3, (), numbers)} | {(3,) + row[1:] for row in table(forbidden, fact)}
            while not slow_closed(forbidden, fact, nodes, tuple(sorted(rows))):
                for node in nodes:
                    found = set(all_put(forbidden, fact, node, sorted(rows)))
                    rows |= {more for more in found if is_let(forbidden, fact, more)}
            rows = tuple(sorted(rows))
            self.assertIs(judge_fact(forbidden, fact, ("all", rows)), True)
            for at in range(len(rows)):
                told = rows[:at] + rows[at + 1:]
                self.assertIs(judge_fact(forbidden, fact, ("all", told)), slow_closed(forbidden, fact, nodes, told))

    def test_nodes_of_four_things(self):
        for forbidden in (((1, 2, 3), (2, 1)), ((2, 4, 1, 3), (1, 2, 3), (3, 2, 1), (2, 1, 4, 3), (3, 4, 1, 2))):
            fact = ("least", "things", 1)
            rows = table(forbidden, fact)
            nodes = slow_nodes(forbidden, 4)
            self.assertIs(judge_fact(forbidden, fact, ("all", rows)), True)
            self.assertTrue(len(rows) > 6 or slow_closed(forbidden, fact, nodes, rows))
            for at in range(len(rows)):
                self.assertIs(judge_fact(forbidden, fact, ("all", rows[:at] + rows[at + 1:])), False)

    def test_lists_that_let_nothing(self):
        for fact in TABLE_FACTS:
            self.assertIs(judge_fact(NOTHING, fact, ("all", ())), True)
            self.assertIs(judge_fact(NOTHING, fact, ("breaks", (1,))), False)
        self.assertIs(judge_fact(NOTHING, ("least", "tops", 1), ("all", ((3, (), (("tops", 0, 1),)),))), True)
        self.assertIs(judge_fact(NOTHING, ("least", "tops", 1), ("all", ((3, (), (("tops", 0, 0),)),))), False)
        whole = (3, ((0, 0, 1, 0, 1),), (("tops", 0, 1),))
        self.assertIs(judge_fact(NOTHING, ("least", "tops", 1), ("all", (whole,))), False)

    def test_rows_of_no_form(self):
        fact = ("rest", "things", 2, 1)
        for told in no_rows(table(RISING, fact)[0]):
            self.assertIs(judge_fact(RISING, fact, ("all", (told,))), False)
            self.assertIs(judge_fact(((1, 2), (2, 1)), fact, ("all", (told,))), False)


class BreaksTest(Case):
    def test_just_those_of_fewest_things(self):
        for forbidden, fact in TABLE_PAIRS:
            breaking = [order for order in let_to(forbidden, 5)[1:] if not slow_truth(fact, order)]
            for order in let_to(forbidden, 4)[1:] + breaking[:3] + breaking[-3:]:
                right = order in breaking and len(order) == len(breaking[0])
                self.assertIs(judge_fact(forbidden, fact, ("breaks", order)), right)

    def test_orders_that_are_not_let(self):
        self.assertIs(judge_fact(FALL, ("not", ("shows", (2, 1), ())), ("breaks", (2, 1))), True)
        self.assertIs(judge_fact(FALL, ("not", ("shows", (3, 1, 2), ())), ("breaks", (3, 1, 2))), True)
        self.assertIs(judge_fact(((3, 1, 2),), ("not", ("shows", (3, 1, 2), ())), ("breaks", (3, 1, 2))), False)
        self.assertIs(judge_fact(FALL, ("rest", "turns", 2, 0), ("breaks", (2, 3, 1))), False)

    def test_many_things(self):
        fact = ("not", ("least", "things", 9))
        self.assertIs(judge_fact(RISING, fact, ("breaks", tuple(range(1, 10)))), True)
        self.assertIs(judge_fact(RISING, fact, ("breaks", tuple(range(1, 11)))), False)
        self.assertIs(judge_fact(RISING, fact, ("breaks", tuple(range(1, 9)))), False)
        self.assertIs(judge_fact(CROSSED, ("not", ("least", "turns", 28)), ("breaks", (8, 7, 6, 5, 4, 3, 2, 1))), True)
        self.assertIs(judge_fact(CROSSED, ("not", ("least", "turns", 28)), ("breaks", (1, 9, 8, 7, 6, 5, 4, 3, 2))), False)
        self.assertIs(judge_fact(ELEVEN, ("not", ("least", "things", 6)), ("breaks", (4, 6, 2, 5, 1, 3))), True)

    def test_tables_with_far_more_rows_than_are_told(self):
        fact = ("both", ("not", ("shows", (2, 1, 3, 4), (-1, 0))), ("least", "turns", 0))
        self.assertIs(judge_fact(CROSSED, fact, ("breaks", (2, 1, 3, 4))), True)
        self.assertIs(judge_fact(CROSSED, fact, ("breaks", (2, 1, 3, 5, 4))), False)


class WrongTest(Case):
    def test_what_is_no_paper(self):
        for told in NO_PAPERS:
            for fact in (EVEN, ("least", "tops", 1), ("not", ("least", "things", 2))):
                self.assertIs(judge_fact(RISING, fact, told), False, told)
                self.assertIs(judge_fact(TWO, fact, told), False, told)

    def test_told_ones(self):
        self.assertIs(judge_fact(RISING, ("least", "tops", 1), ("breaks", (1,))), False)
        self.assertIs(judge_fact(RISING, EVEN, ("breaks", (1,))), True)

    def test_errors(self):
        for told in NO_LISTS:
            self.assert_raises(InvalidList, told, judge_fact, told, None, None)
        for told in NO_FACTS:
            self.assert_raises(InvalidFact, told, judge_fact, STAIRS, told, None)
        for forbidden, _ in FAMILY_LISTS[:6] + ROAD_LISTS[:3]:
            self.assert_raises(NotFew, fate(forbidden), judge_fact, forbidden, EVEN, None)
            self.assert_raises(NotFew, fate(forbidden), judge_fact, forbidden, EVEN, ("breaks", (1,)))
        self.assert_raises(TooMany, 300, judge_fact, ((1, 2, 3, 4, 5), (5, 4, 3, 2, 1)), EVEN, ("breaks", (1,)))


if __name__ == "__main__":
    unittest.main()
