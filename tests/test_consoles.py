"""wholeorders.consoles: named lists, what a console answers and keeps, and what is taken back."""

import unittest

from tests.helpers import NO_LISTS, STAIRS, TWO, Case
from tests.text_things import fact_text, fate_text, list_text, machine_text, order_text, saying_text, shape_text
from wholeorders import errors
from wholeorders.alternations import endless
from wholeorders.blocks import shape
from wholeorders.closed import closure, is_closed
from wholeorders.consoles import Console
from wholeorders.counts import count, rule
from wholeorders.lists import (inverse_list, is_finite, joined, lets, lies_within, met, mirrored_list, parting, same,
                               turned_list)
from wholeorders.machines import machine
from wholeorders.pins import pin_count
from wholeorders.ranks import nth, place_of
from wholeorders.rates import rate
from wholeorders.roads import fate
from wholeorders.sayings import meaning
from wholeorders.steps import simple_let
from wholeorders.tables import decided
from wholeorders.treecounts import shape_nth, shape_place, tree_counts

KEPT = {"a": TWO, "b": ((2, 1),), "fall": ((2, 3, 1),), "none": (), "nothing": ((1,),), "stairs": STAIRS, "twice": ((2, 1), (2, 1)),
        "eleven": ((1, 2, 3), (4, 3, 2, 1)), "abcdefgh": ((3, 2, 1),)}
FACT = ("both", ("rest", "turns", 2, 0), ("not", ("shows", (1, 2), (-1,))))
SAYING = ("both", ("sorted", "stack"), ("turned", ("list", ((2, 1, 3),))))
NO_NAMES = (None, 3, "", "A", "a1", "a b", "abcdefghi", "a_", ("a",), ["a"], "-", " a", "a\n", "é", b"a", True, {})
UNORDERLY = (
    "", " ", "x", "List a 2 1", "lists a 2 1", "list", "list ", "list a", "list a ", "list  a 2 1", "list a  2 1", "list a 2 1 ",
    " list a 2 1", "list A 2 1", "list a1 2 1", "list abcdefghi 2 1", "list 2 1", "list a 1 3", "list a [2 1]", "list a 2 1,1 2",
    "list a 1234567890", "list a 01", "say a", "say a stack", "say a (sorted)", "say a (list [1 3])", "say a (sorted stack) ",
    "say A (sorted stack)", "both c a", "both c a b b", "both c a b ", "both c  a b", "both", "either c a", "either c a B", "either c a 2 1",
    "turned c", "turned c a b", "turned", "mirrored c", "mirrored c a b", "inverse c", "inverse c 2 1", "drop", "drop ", "drop a b", "drop A",
    "undo ", "undo a", "undo 1", "names ", "names a", "name", "show", "show ", "show a b", "show a ", "show  a", "show 2 1", "lets a", "lets a ",
    "lets a 1 3", "lets a 2 1 ", "lets 2 1", "lets a [2 1]", "same a", "same a b b", "within a", "within a  b", "finite", "finite a a",
    "parting a", "parting a b b", "endless", "endless a b", "count a", "count a x", "count a 05", "count a -0", "count a +5", "count a 5 ",
    "count a 5 5", "count a 1234567890", "count a --5", "count a 5.0", "count 5 a", "rule", "rule a b", "rate", "rate a 3", "nth a 3", "nth a 3 2 1",
    "nth a  3 2", "nth a 3 02", "nth a x 2", "nth 3 2 a", "place a", "place a 2 2", "place 2 1", "machine", "machine a b", "machine 2 1", "shape",
    "shape ", "shape a", "shape 1 3", "shape [2 1]", "simple a", "simple a 4 4", "simple a -", "simple 4", "fate", "fate a b", "fate a ", "few",
    "few a b", "few 4", "closed", "closed a b", "close a", "close c a b", "close", "pins a", "pins a x", "pins a 1 u", "decide a",
    "decide a (least tops)", "decide a (least tops 1) ", "decide (least tops 1)", "decide a  (least tops 1)", "true a (least tops 1)",
    "true a 3", "true a x (least tops 1)", "true a 3 (least tops 1) b", "true a 3 least tops 1", "shapenth a 3", "shapenth a 3 2 1",
    "shapenth a 3 -0", "shapeplace a", "shapeplace a 1 3", "shapeplace 2 1", "a", "done", "yes", "help", "LIST a 2 1", "list\ta 2 1", "list-a")


def filled():
    """Return a console with some lists."""
    console = Console()
    for name, forbidden in KEPT.items():
        console.keep(name, forbidden)
    return console


def state(console):
    """Return all names and lists of a console."""
    return {name: console.forbidden(name) for name in console.names()}


class MethodsTest(Case):
    def test_keep_drop_and_names(self):
        console = Console()
        self.assertEqual(console.names(), [])
        self.assertIsNone(console.keep("b", ((2, 1),)))
        self.assertIsNone(console.keep("a", ()))
        self.assertEqual(console.names(), ["a", "b"])
        self.assertEqual([console.forbidden("a"), console.forbidden("b")], [(), ((2, 1),)])
        self.assertIsNone(console.keep(name="a", forbidden=TWO))
        self.assertEqual(console.forbidden(name="a"), TWO)
        self.assertIsNone(console.drop(name="b"))
        self.assertEqual(console.names(), ["a"])
        self.assertEqual(Console().names(), [])

    def test_undo(self):
        console = Console()
        states = [state(console)]
        for change in (lambda: console.keep("a", TWO), lambda: console.keep("a", ()), lambda: console.keep("b", ((2, 1), (2, 1))),
                       lambda: console.drop("a"), lambda: console.keep("a", ((1,),)), lambda: console.drop("b"), lambda: console.drop("a"),
                       lambda: console.order("list c 1 2"), lambda: console.order("turned c c"), lambda: console.order("drop c"),
                       lambda: console.order("say c (sorted stack)"), lambda: console.order("close d c")):
            change()
            states.append(state(console))
        while len(states) > 1:
            self.assertEqual(state(console), states.pop())
            self.assertIsNone(console.undo())
        self.assertEqual(state(console), {})
        for _ in range(2):
            self.assert_raises(errors.NothingToUndo, 0, console.undo)
            self.assert_raises(errors.NothingToUndo, 0, console.order, "undo")
        console.keep("a", TWO)
        console.undo()
        self.assertEqual(state(console), {})

    def test_undo_in_between(self):
        console = Console()
        console.keep("a", TWO)
        console.keep("b", ())
        console.undo()
        console.keep("c", ((1,),))
        self.assertEqual(console.order("undo"), "done")
        self.assertEqual(console.names(), ["a"])
        self.assertEqual(console.order("undo"), "done")
        self.assert_raises(errors.NothingToUndo, 0, console.undo)

    def test_sixty_changes(self):
        console = Console()
        states = []
        for at in range(60):
            states.append(state(console))
            if at % 4 == 3:
                console.drop("abc"[at % 3])
                console.undo()
                console.order(f"drop {'abc'[at % 3]}")
            else:
                console.keep("abc"[at % 3], tuple(tuple(range(1, n + 1)) for n in range(at % 20, 20) if n))
        for before in states[::-1]:
            console.undo()
            self.assertEqual(state(console), before)
        self.assert_raises(errors.NothingToUndo, 0, console.undo)

    def test_names_of_one_and_of_eight_letters(self):
        console = Console()
        for name in ("a", "z", "abcdefgh", "zzzzzzzz", "undo", "names", "list"):
            console.keep(name, ())
            self.assertEqual(console.order(f"show {name}"), "-")
        self.assertEqual(console.order("names"), "\n".join(sorted(("a", "z", "abcdefgh", "zzzzzzzz", "undo", "names", "list"))))

    def test_a_returned_list_is_new(self):
        console = filled()
        names = console.names()
        names.append("more")
        del names[0]
        self.assertEqual(console.names(), sorted(KEPT))
        self.assertEqual(state(console), KEPT)

    def test_two_consoles(self):
        one, other = Console(), Console()
        one.keep("a", TWO)
        self.assertEqual([one.names(), other.names()], [["a"], []])
        self.assert_raises(errors.NothingToUndo, 0, other.undo)

    def test_errors(self):
        console = filled()
        for name in NO_NAMES:
            self.assert_raises(errors.InvalidName, name, console.keep, name, None)
            self.assert_raises(errors.UnknownName, name, console.forbidden, name)
            self.assert_raises(errors.UnknownName, name, console.drop, name)
        for told in NO_LISTS:
            self.assert_raises(errors.InvalidList, told, console.keep, "a", told)
        self.assert_raises(errors.UnknownName, "c", console.forbidden, "c")
        self.assert_raises(errors.UnknownName, "c", console.drop, "c")
        self.assertEqual(state(console), KEPT)
        for _ in KEPT:
            console.undo()
        self.assert_raises(errors.NothingToUndo, 0, console.undo)


class AnswersTest(Case):
    def yes(self, truth):
        return "yes" if truth else "no"

    def test_of_one_list(self):
        console = filled()
        for name, told in KEPT.items():
            kind = endless(told)
            self.assertEqual(console.order(f"show {name}"), list_text(told))
            self.assertEqual(console.order(f"finite {name}"), self.yes(is_finite(told)))
            self.assertEqual(console.order(f"endless {name}"), "no" if kind is None else order_text(kind))
            self.assertEqual(console.order(f"fate {name}"), fate_text(fate(told)))
            self.assertEqual(console.order(f"few {name}"), self.yes(fate(told)[0] == "few"))
            self.assertEqual(console.order(f"closed {name}"), self.yes(is_closed(told)))
            for n in (0, 2, 4, 5):
                simple = simple_let(told, n)
                self.assertEqual(console.order(f"simple {name} {n}"), "\n".join(map(order_text, simple)) or "none")
                self.assertEqual(console.order(f"pins {name} {n}"), str(pin_count(told, n)))
            for order in ((), (1,), (2, 1), (2, 3, 1), (2, 4, 1, 3)):
                self.assertEqual(console.order(f"lets {name} {order_text(order)}"), self.yes(lets(told, order)))
        self.assertEqual(state(console), KEPT)

    def test_of_two_lists(self):
        console = filled()
        for name, told in KEPT.items():
            for second, other in KEPT.items():
                self.assertEqual(console.order(f"same {name} {second}"), self.yes(same(told, other)))
                self.assertEqual(console.order(f"within {name} {second}"), self.yes(lies_within(told, other)))
                order = parting(told, other)
                self.assertEqual(console.order(f"parting {name} {second}"), "no" if order is None else order_text(order))
        self.assertEqual(state(console), KEPT)

    def test_by_words(self):
        console = filled()
        for name in ("a", "b", "nothing", "twice", "eleven"):
            told = KEPT[name]
            for n in (0, 3, 60):
                self.assertEqual(console.order(f"count {name} {n}"), str(count(told, n)))
            firsts, numbers = rule(told)
            self.assertEqual(console.order(f"rule {name}"), f"{order_text(firsts)} : {' '.join(map(self.number, numbers))}")
            self.assertEqual(console.order(f"rate {name}"), " ".join(map(self.number, rate(told)[1:])))
            self.assertEqual(console.order(f"machine {name}"), machine_text(machine(told)))
            for n in range(4):
                for i in range(count(told, n)):
                    order = nth(told, n, i)
                    self.assertEqual(console.order(f"nth {name} {n} {i}"), order_text(order))
                    self.assertEqual(console.order(f"place {name} {order_text(order)}"), str(place_of(told, order)))
        self.assertEqual(state(console), KEPT)

    def number(self, told):
        return str(told[0]) if told[1] == 1 else f"{told[0]}/{told[1]}"

    def test_by_shapes(self):
        console = filled()
        for name in ("a", "b", "fall", "nothing", "eleven"):
            told = KEPT[name]
            for n in (0, 3, 5):
                self.assertEqual(console.order(f"true {name} {n} {fact_text(FACT)}"), str(tree_counts(told, FACT, n)[n]))
            for n in (0, 1, 3):
                for i in range(tree_counts(told, None, n)[n]):
                    order = shape_nth(told, None, n, i)
                    self.assertEqual(console.order(f"shapenth {name} {n} {i}"), order_text(order))
                    self.assertEqual(console.order(f"shapeplace {name} {order_text(order)}"), str(shape_place(told, None, order)))
            for fact in (FACT, ("not", FACT), ("least", "things", 1)):
                kind, found = decided(told, fact)
                answer = console.order(f"decide {name} {fact_text(fact)}")
                self.assertEqual(answer, "all" if kind == "all" else order_text(found))
        for order in ((1,), (2, 1, 3), (2, 4, 1, 3), tuple(range(1, 41))):
            self.assertEqual(console.order(f"shape {order_text(order)}"), shape_text(shape(order)))
        self.assertEqual(state(console), KEPT)

    def test_what_is_kept(self):
        for text, kept in (
                ("list new 2 1, 2 1, 1 2 3", ((2, 1), (2, 1), (1, 2, 3))), ("list new -", ()), (f"say new {saying_text(SAYING)}", meaning(SAYING)),
                ("both new a eleven", met(TWO, KEPT["eleven"])), ("either new a b", joined(TWO, KEPT["b"])),
                ("turned new stairs", turned_list(STAIRS)), ("mirrored new stairs", mirrored_list(STAIRS)),
                ("inverse new stairs", inverse_list(STAIRS)), ("close new fall", closure(KEPT["fall"])),
                ("list a 1 2", ((1, 2),)), ("close a a", closure(TWO)), ("turned fall fall", turned_list(KEPT["fall"]))):
            console = filled()
            name = text.split(" ")[1]
            self.assertEqual(console.order(text), "done")
            self.assertEqual(state(console), {**KEPT, name: kept})
            self.assertEqual(console.order(text="undo"), "done")
            self.assertEqual(state(console), KEPT)
        console = filled()
        self.assertEqual(console.order("drop a"), "done")
        self.assertEqual(console.names(), sorted(set(KEPT) - {"a"}))
        self.assertEqual(console.order("undo"), "done")
        self.assertEqual(state(console), KEPT)

    def test_told_ones(self):
        console = Console()
        self.assertEqual(console.order("names"), "none")
        told = (
            ("list two 2 3 1, 3 1 2", "done"), ("list none -", "done"), ("names", "none\ntwo"), ("show two", "2 3 1, 3 1 2"), ("show none", "-"),
            ("lets two -", "yes"), ("lets two 2 3 1", "no"), ("count two 5", "16"), ("rule two", "1 1 : 2 0"), ("rate two", "2 2"),
            ("endless none", "-1 -1"), ("endless two", "no"), ("nth two 3 1", "1 2 3"), ("nth two 0 0", "-"), ("place two 2 1 3", "0"),
            ("simple none 4", "2 4 1 3\n3 1 4 2"), ("simple two 4", "none"), ("fate none", "family between 0"), ("fate two", "few 4"),
            ("few none", "no"), ("few two", "yes"), ("shape 2 1", "(- o o)"), ("pins none 2", "16"), ("decide two (least tops 1)", "all"),
            ("decide two (least tops 2)", "1"), ("true two 2 (least tops 2)", "1"), ("shapenth two 2 1", "2 1"), ("shapeplace two 2 1", "1"),
            ("drop none", "done"), ("names", "two"), ("undo", "done"), ("undo", "done"), ("names", "two"), ("undo", "done"), ("names", "none"))
        for text, answer in told[:-5]:
            self.assertEqual(console.order(text), answer, text)
        self.assertEqual([console.order("undo"), console.order("names")], ["done", "none\ntwo"])
        self.assertEqual([console.order("undo"), console.order("names")], ["done", "two"])
        self.assertEqual([console.order("undo"), console.order("names")], ["done", "none"])


class WrongOrdersTest(Case):
    def test_unorderly(self):
        console = filled()
        right = ("names", "undo", "show a", "list c 2 1", "lets a 2 1", "decide a (least tops 1)")
        for text in UNORDERLY + tuple(text + "\n" for text in right) + tuple(text + "\nnames" for text in right) + tuple(
                "\n" + text for text in right) + tuple(text.replace(" ", "\n") for text in right if " " in text):
            self.assert_raises(errors.Unorderly, text, console.order, text)
        self.assertEqual(state(console), KEPT)

    def test_unknown_names_the_first_from_the_left(self):
        console = filled()
        for text in ("show x", "drop x", "both c x y", "both c a x", "either c x a", "turned c x", "mirrored c x", "inverse c x", "close c x",
                     "lets x 2 1", "same x y", "same a x", "within x a", "finite x", "parting x y", "endless x", "count x -1", "rule x",
                     "rate x", "nth x -1 -1", "place x -", "machine x", "simple x -1", "fate x", "few x", "closed x", "pins x -1",
                     "decide x (least tops 1)", "true x -1 (least tops 1)", "shapenth x -1 -1", "shapeplace x 2 1", "turned x x"):
            self.assert_raises(errors.UnknownName, "x", console.order, text)
        self.assertEqual(state(console), KEPT)

    def test_errors_of_the_functions(self):
        console = filled()
        for kind, value, text in (
                (errors.NoMachine, (1, -1), "count fall -1"), (errors.InvalidNumber, -1, "count a -1"), (errors.NoMachine, (1, -1), "rule fall"),
                (errors.NoMachine, (1, -1), "rate fall"), (errors.NoMachine, (1, -1), "machine fall"), (errors.NoMachine, (1, -1), "nth fall 3 0"),
                (errors.InvalidNumber, -3, "nth a -3 -4"), (errors.InvalidNumber, -4, "nth a 3 -4"), (errors.InvalidNumber, 4, "nth a 3 4"),
                (errors.NoMachine, (1, -1), "place fall 2 1"), (errors.NotLet, (2, 3, 1), "place a 2 3 1"), (errors.InvalidOrder, (), "shape -"),
                (errors.InvalidNumber, -1, "simple a -1"), (errors.InvalidNumber, -12, "pins a -12"),
                (errors.NotFew, fate(()), "close c none"), (errors.NotFew, fate(STAIRS), "close c stairs"),
                (errors.NotFew, fate(STAIRS), "decide stairs (least tops 1)"), (errors.InvalidNumber, -1, "true stairs -1 (least tops 1)"),
                (errors.NotFew, fate(STAIRS), "true stairs 1 (least tops 1)"), (errors.TooMany, 400, "decide fall (rest turns 9 0)"),
                (errors.NotFew, fate(()), "shapenth none 3 0"), (errors.InvalidNumber, 5, "shapenth fall 3 5"),
                (errors.InvalidNumber, -1, "shapenth fall -1 -2"), (errors.InvalidNumber, -2, "shapenth fall 1 -2"),
                (errors.NotLet, (2, 3, 1), "shapeplace fall 2 3 1"), (errors.NotFew, fate(STAIRS), "shapeplace stairs 2 1")):
            self.assert_raises(kind, value, console.order, text)
            self.assertEqual(state(console), KEPT)
        console.keep("many", ((1, 2, 3, 4, 5), (5, 4, 3, 2, 1)))
        for text in ("fate many", "few many", "close c many", "decide many (least tops 1)", "true many 3 (least tops 1)", "shapenth many 1 0"):
            self.assert_raises(errors.TooMany, 300, console.order, text)
        console.undo()
        self.assertEqual(state(console), KEPT)
        for _ in KEPT:
            self.assertEqual(console.order("undo"), "done")
        self.assert_raises(errors.NothingToUndo, 0, console.order, "undo")


if __name__ == "__main__":
    unittest.main()
