"""wholeorders.texts: the texts of all things that have some."""

import unittest

from tests.helpers import Case
from tests.text_things import THINGS
from wholeorders import texts


class TextsTest(Case):
    def test_all_things(self):
        for name, (things, text_of) in THINGS.items():
            show = getattr(texts, "show_" + name)
            for thing in things:
                self.assertEqual(show(thing), text_of(thing))

    def test_unlike_things_have_unlike_texts(self):
        for name, (things, _) in THINGS.items():
            show = getattr(texts, "show_" + name)
            unlike = set(things)
            self.assertEqual(len({show(thing) for thing in unlike}), len(unlike))

    def test_numbers(self):
        long = int("7" * 300)
        self.assertEqual([texts.show_number(told) for told in ((3, 1), (0, 1), (-5, 1), (1, 2), (-7, 3), (long, 1), (1, long))],
                         ["3", "0", "-5", "1/2", "-7/3", "7" * 300, "1/" + "7" * 300])

    def test_told_ones(self):
        self.assertEqual(texts.show_order(()), "-")
        self.assertEqual(texts.show_order((2, 4, 1, 3)), "2 4 1 3")
        self.assertEqual(texts.show_list(()), "-")
        self.assertEqual(texts.show_word(((1, 0), (2, 1), (3, 2), (10, 3))), "1m 2l 3r 10f")
        self.assertEqual(texts.show_machine((((),), ())), "0 : -")
        self.assertEqual(texts.show_machine((((((1, 3), 0),), ()), (0, 1))), "0 end : 1f 0\n1 end : -")
        self.assertEqual(texts.show_saying(("list", ())), "(list [-])")
        self.assertEqual(texts.show_saying(("both", ("sorted", "stack"), ("list", ((1, 2), (2, 1))))),
                         "(both (sorted stack) (list [1 2, 2 1]))")
        self.assertEqual(texts.show_pin((1, "u", "r")), "1 u r")
        self.assertEqual(texts.show_pin(()), "-")
        self.assertEqual(texts.show_shape(("one",)), "o")
        self.assertEqual(texts.show_shape(("sum", ("one",), ("skew", ("one",), ("one",)))), "(+ o (- o o))")
        self.assertEqual(texts.show_shape(("simple", (2, 4, 1, 3), (("one",),) * 4)), "([2 4 1 3] o o o o)")
        self.assertEqual(texts.show_fact(("shows", (2, 1), (-1, 0))), "(shows [2 1] -1 0)")
        self.assertEqual(texts.show_fact(("shows", (1,), ())), "(shows [1])")
        self.assertEqual(texts.show_fact(("not", ("rest", "things", 2, 0))), "(not (rest things 2 0))")
        self.assertEqual(texts.show_fact(("least", "turns", 3)), "(least turns 3)")
        self.assertEqual(texts.show_fate(("few", (), 4)), "few 4")
        self.assertEqual(texts.show_fate(("few", ((2, 4, 1, 3), (3, 1, 4, 2)), 5)), "few 5\n2 4 1 3\n3 1 4 2")
        self.assertEqual(texts.show_fate(("family", ("between", 7))), "family between 7")
        self.assertEqual(texts.show_fate(("pins", (1, "r", "d"), ("l", "d"))), "pins 1 r d / l d")


if __name__ == "__main__":
    unittest.main()
