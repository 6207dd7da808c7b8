"""What holds of all functions: arguments by position and by name, nothing changed, lists that are new each time."""

import copy
import importlib
import inspect
import unittest

from tests.helpers import STAIRS, TWO

ORDER = (2, 4, 1, 3)
WORD = ((1, 0), (1, 3), (1, 3))
SHAPE = ("skew", ("one",), ("sum", ("one",), ("one",)))
MACHINE = (((((1, 1), 0), ((1, 3), 1)), ()), (1,))
OTHER = (((((1, 3), 1),), ()), (1,))
FALLING = ((1, 2),)
SAYING = ("both", ("sorted", "stack"), ("turned", ("list", ((2, 1, 3),))))
PIN = (1, "d", "l", "d", "l")
ELEVEN = ((1, 2, 3), (4, 3, 2, 1))
RISING = ((2, 1),)
HOOKED = ((2, 1), (0,))
EVEN = ("rest", "things", 2, 0)
FACT = ("either", ("not", ("shows", (2, 1), (0,))), ("least", "turns", 3))
SYSTEM = (((1, -2, -1), (1, 0, 0)),)
ROW = (0, ((0, 0, 1, 0, 0), (0, 0, 1, 1, 1)), (("things", 1, 0),))
CALLS = {
    "patterns": {
        "is_order": {"told": ORDER}, "is_pattern": {"told": ORDER}, "pattern_of": {"numbers": (5, -2, 9)},
        "shows": {"order": ORDER, "pattern": (2, 1)}, "places": {"order": ORDER, "pattern": (2, 1)},
        "how_many": {"order": ORDER, "pattern": (2, 1)}, "turned": {"order": ORDER}, "mirrored": {"order": ORDER},
        "inverse": {"order": ORDER}, "parts_of": {"order": ORDER, "n": 2}, "orders": {"n": 3}},
    "blocks": {
        "summed": {"one": ORDER, "other": (2, 1)}, "skew_summed": {"one": ORDER, "other": (2, 1)},
        "parts": {"order": (2, 1, 3)}, "skew_parts": {"order": (2, 3, 1)}, "blocks": {"order": ORDER},
        "is_simple": {"order": ORDER}, "put_together": {"order": (2, 1), "orders": ((1, 2), (1,))},
        "tree": {"order": ORDER}, "from_tree": {"tree": ("sum", (("one",), ("one",)))}, "shape": {"order": ORDER},
        "from_shape": {"shape": SHAPE}, "is_shape": {"told": SHAPE}},
    "lists": {
        "is_list": {"told": TWO}, "lets": {"forbidden": TWO, "order": ORDER}, "least": {"forbidden": TWO},
        "lies_within": {"one": TWO, "other": FALLING}, "same": {"one": TWO, "other": FALLING},
        "parting": {"one": TWO, "other": FALLING}, "met": {"one": TWO, "other": FALLING},
        "joined": {"one": TWO, "other": FALLING}, "let_of": {"forbidden": TWO, "n": 4},
        "is_finite": {"forbidden": TWO}, "turned_list": {"forbidden": TWO}, "mirrored_list": {"forbidden": TWO},
        "inverse_list": {"forbidden": TWO}, "is_summed": {"forbidden": TWO}, "is_skew_summed": {"forbidden": TWO}},
    "slots": {
        "is_form": {"told": (0, 1)}, "slots": {"form": (0, 1)}, "put": {"form": (0, 1), "letter": (1, 2)},
        "letters": {"form": (0, 1)}, "led": {"word": WORD}, "word_of": {"order": ORDER}, "order_of": {"word": WORD},
        "widest": {"order": ORDER}, "is_open": {"forbidden": TWO, "form": (0, 1)},
        "filling": {"forbidden": TWO, "form": (0, 1)}},
    "alternations": {
        "alternation": {"kind": (1, -1), "n": 3}, "stops": {"forbidden": TWO, "kind": (1, -1)},
        "stopped": {"forbidden": TWO}, "endless": {"forbidden": TWO}, "most_slots": {"forbidden": TWO}},
    "machines": {
        "is_machine": {"told": MACHINE}, "spells": {"machine": MACHINE, "word": WORD}, "machine": {"forbidden": TWO},
        "least_machine": {"machine": MACHINE}, "same_words": {"one": MACHINE, "other": OTHER},
        "met_machine": {"one": MACHINE, "other": OTHER}, "joined_machine": {"one": MACHINE, "other": OTHER},
        "less_machine": {"one": MACHINE, "other": OTHER}, "words": {"machine": MACHINE, "n": 3}},
    "counts": {
        "count": {"forbidden": TWO, "n": 5}, "counts": {"forbidden": TWO, "n": 5}, "rule": {"forbidden": TWO},
        "degree": {"forbidden": TWO}},
    "rates": {"rate": {"forbidden": TWO}, "faster": {"one": TWO, "other": FALLING}},
    "ranks": {
        "nth": {"forbidden": TWO, "n": 4, "i": 5}, "place_of": {"forbidden": TWO, "order": (2, 1, 3)},
        "next_order": {"forbidden": TWO, "order": (2, 1, 3)},
        "drawn": {"forbidden": TWO, "n": 4, "tape": (1, 0, 1, 1)}},
    "sorters": {
        "made": {"sorter": "queues", "order": ORDER}, "sorts": {"sorter": "stack", "order": ORDER},
        "list_of": {"sorter": "bubble"}, "passes": {"sorter": "popper", "order": ORDER},
        "least_unsorted": {"sorter": "popper", "n": 4}},
    "sayings": {
        "is_saying": {"told": SAYING}, "meaning": {"saying": SAYING}, "lot_of": {"saying": SAYING, "n": 3},
        "is_meant": {"saying": SAYING, "order": (1, 3, 2)}},
    "steps": {
        "without": {"order": ORDER, "at": 1}, "one_more": {"order": ORDER}, "simple_orders": {"n": 5},
        "simple_let": {"forbidden": STAIRS, "n": 5}, "smaller_simple": {"order": (2, 5, 3, 1, 4)},
        "is_lone": {"order": ORDER}, "chain": {"order": (2, 5, 3, 1, 4)},
        "is_chain": {"told": (ORDER, (2, 5, 3, 1, 4))}},
    "pins": {
        "is_pin_word": {"told": PIN}, "pin_order": {"word": PIN}, "pin_places": {"word": PIN},
        "pin_words": {"order": (1, 2)}, "turned_pin": {"word": PIN}, "mirrored_pin": {"word": PIN},
        "inverse_pin": {"word": PIN}, "left_out": {"word": PIN}, "pin_lets": {"forbidden": STAIRS, "word": PIN},
        "pin_machine": {"forbidden": STAIRS}, "pin_count": {"forbidden": STAIRS, "n": 4},
        "pin_road": {"forbidden": STAIRS}},
    "families": {
        "kinds": {}, "member": {"kind": ("open", 1), "n": 3},
        "stops_kind": {"forbidden": STAIRS, "kind": ("open", 1)}, "endless_kind": {"forbidden": ((3, 2, 1),)}},
    "roads": {
        "fate": {"forbidden": STAIRS, "most": 300}, "simples": {"forbidden": ELEVEN, "most": 300},
        "longest": {"forbidden": ELEVEN, "most": 300}, "grown": {"paper": ("pins", (1, "r"), ("u", "r")), "n": 2}},
    "judges": {
        "judge_fate": {"forbidden": STAIRS, "paper": ("pins", (1, "r", "d"), ("l", "d"))},
        "judge_pins": {"forbidden": ((1,),), "rows": ((),)}},
    "closed": {
        "is_closed": {"forbidden": TWO}, "closure": {"forbidden": TWO, "most": 300}, "opened": {"forbidden": TWO}},
    "facts": {
        "is_hooked": {"told": HOOKED}, "is_fact": {"told": FACT}, "meets": {"order": ORDER, "hooked": HOOKED},
        "meeting_places": {"order": ORDER, "hooked": HOOKED}, "measure": {"order": ORDER, "name": "turns"},
        "is_true": {"fact": FACT, "order": ORDER}, "hooked_of": {"fact": FACT}},
    "traits": {
        "traits": {"forbidden": RISING, "fact": EVEN, "order": (1, 2)},
        "is_traits": {"forbidden": RISING, "fact": EVEN, "told": ROW},
        "put_traits": {"forbidden": RISING, "fact": EVEN, "node": (2, 1), "rows": (ROW, ROW)},
        "is_let": {"forbidden": RISING, "fact": EVEN, "row": ROW},
        "is_true_of": {"forbidden": RISING, "fact": EVEN, "row": ROW}},
    "tables": {
        "table": {"forbidden": RISING, "fact": EVEN, "most": 400},
        "decided": {"forbidden": RISING, "fact": ("least", "tops", 1), "most": 400},
        "implied": {"forbidden": RISING, "one": EVEN, "other": ("least", "tops", 1), "most": 400},
        "examples": {"forbidden": RISING, "fact": EVEN, "most": 400}},
    "judges2": {"judge_fact": {"forbidden": RISING, "fact": EVEN, "paper": ("breaks", (1,))}},
    "treecounts": {
        "tree_counts": {"forbidden": TWO, "fact": FACT, "n": 5},
        "shape_nth": {"forbidden": TWO, "fact": None, "n": 4, "i": 5},
        "shape_place": {"forbidden": TWO, "fact": None, "order": (2, 1, 3)},
        "shape_next": {"forbidden": TWO, "fact": None, "order": (2, 1, 3)},
        "shape_drawn": {"forbidden": TWO, "fact": None, "n": 4, "tape": (1, 0, 1, 1)}},
    "systems": {
        "is_system": {"told": SYSTEM}, "is_founded": {"system": SYSTEM}, "solved": {"system": SYSTEM, "n": 5},
        "system": {"forbidden": TWO}},
    "bridges": {
        "both_counts": {"forbidden": TWO, "n": 5}, "first_unlike": {"forbidden": TWO, "n": 3},
        "word_of_shape": {"shape": SHAPE}, "shape_of_word": {"word": WORD}},
    "texts": {
        "show_number": {"a": (-3, 2)}, "show_order": {"order": ORDER}, "show_list": {"forbidden": TWO},
        "show_word": {"word": WORD}, "show_machine": {"machine": MACHINE}, "show_saying": {"saying": SAYING},
        "show_pin": {"word": PIN}, "show_shape": {"shape": SHAPE}, "show_fact": {"fact": FACT},
        "show_fate": {"paper": ("pins", (1, "r"), ("u", "r"))}},
    "readers": {
        "read_order": {"text": "2 4 1 3"}, "read_list": {"text": "2 1, 1 2"}, "read_word": {"text": "1m 1f 1f"},
        "read_machine": {"text": "0 : 1l 0, 1f 1\n1 end : -"}, "read_saying": {"text": "(turned (list [2 1]))"},
        "read_pin": {"text": "1 d l"}, "read_shape": {"text": "(- o (+ o o))"},
        "read_fact": {"text": "(not (shows [2 1] 0))"}, "read_fate": {"text": "few 5\n2 4 1 3"}},
}
LISTS = {"places", "parts_of", "orders", "blocks", "let_of", "letters", "words", "counts", "least_unsorted", "lot_of",
         "one_more", "simple_orders", "simple_let", "smaller_simple", "pin_words", "kinds",
         "meeting_places", "examples", "tree_counts", "solved"}
TRUTHS = {"shows", "lets", "lies_within", "same", "stops", "spells", "sorts", "pin_lets", "judge_fate", "judge_pins",
          "meets", "judge_fact"}
PAIRS_OF_LISTS = {"both_counts"}
BY_NAME_ALONE = {"most"}


def all_calls():
    """Return (module, function, arguments by name) for each function of the interface."""
    found = []
    for module, functions in CALLS.items():
        for name, told in functions.items():
            found.append((module, getattr(importlib.import_module("wholeorders." + module), name), told))
    return found


def holds_lists(value):
    """Tell whether a value is a list, or a tuple with a list somewhere in it."""
    return isinstance(value, list) or isinstance(value, tuple) and any(holds_lists(inner) for inner in value)


class CallsTest(unittest.TestCase):
    def test_each_function_is_defined_in_its_own_file(self):
        for module, function, _ in all_calls():
            self.assertEqual(function.__module__, "wholeorders." + module)

    def test_the_names_of_the_arguments(self):
        for _, function, told in all_calls():
            self.assertEqual(list(inspect.signature(function).parameters), list(told))

    def test_by_position_and_by_name(self):
        for _, function, told in all_calls():
            with self.subTest(function=function.__name__):
                answer = function(**told)
                named = {name: told[name] for name in told if name in BY_NAME_ALONE}
                row = [told[name] for name in told if name not in BY_NAME_ALONE]
                self.assertEqual(function(*row, **named), answer)
                self.assertEqual(function(*row), answer)
                self.assertEqual(function(**dict(reversed(list(told.items())))), answer)
                if named:
                    with self.assertRaises(TypeError):
                        function(*row, *named.values())

    def test_what_is_handed_in_is_as_it_was(self):
        for _, function, told in all_calls():
            before = copy.deepcopy(told)
            function(**told)
            self.assertEqual(told, before)
            self.assertEqual(repr(told), repr(before))

    def test_a_returned_list_that_is_changed_changes_no_later_answer(self):
        for _, function, told in all_calls():
            answer = function(**told)
            self.assertEqual(isinstance(answer, list), function.__name__ in LISTS)
            if isinstance(answer, list):
                before = list(answer)
                answer.append("more")
                del answer[0]
                self.assertEqual(function(**told), before)
                self.assertFalse(any(holds_lists(inner) for inner in before))
            elif function.__name__ in PAIRS_OF_LISTS:
                before = copy.deepcopy(answer)
                answer[0].append("more")
                answer[1].clear()
                self.assertEqual(function(**told), before)
            else:
                self.assertFalse(holds_lists(answer))

    def test_truths_are_true_or_false(self):
        for _, function, told in all_calls():
            answer = function(**told)
            truth = function.__name__.startswith("is_") or function.__name__ in TRUTHS
            self.assertEqual(isinstance(answer, bool), truth, function.__name__)


if __name__ == "__main__":
    unittest.main()
