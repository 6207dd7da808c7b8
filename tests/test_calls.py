"""What holds of all functions: arguments by position and by name, nothing changed, lists that are new each time."""

import copy
import importlib
import inspect
import unittest

from tests.helpers import TWO

ORDER = (2, 4, 1, 3)
WORD = ((1, 0), (1, 3), (1, 3))
SHAPE = ("skew", ("one",), ("sum", ("one",), ("one",)))
MACHINE = (((((1, 1), 0), ((1, 3), 1)), ()), (1,))
OTHER = (((((1, 3), 1),), ()), (1,))
FALLING = ((1, 2),)
CALLS = {
    "patterns": {
        "is_order": {"told": ORDER}, "is_pattern": {"told": ORDER}, "pattern_of": {"numbers": (5, -2, 9)},
        "shows": {"order": ORDER, "pattern": (2, 1)}, "places": {"order": ORDER, "pattern": (2, 1)},
        "how_many": {"order": ORDER, "pattern": (2, 1)}, "turned": {"order": ORDER}, "mirrored": {"order": ORDER},
        "inverse": {"order": ORDER}, "parts_of": {"order": ORDER, "n": 2}, "orders": {"n": 3}},
    "blocks": {
        "summed": {"one": ORDER, "other": (2, 1)}, "skew_summed": {"one": ORDER, "other": (2, 1)},
        "parts": {"order": (2, 1, 3)}, "skew_parts": {"order": (2, 3, 1)}, "blocks": {"order": ORDER},
        "is_simple": {"order": ORDER}, "put_together": {"order": (2, 1), "orders": ((1, 2), (1,))},
        "tree": {"order": ORDER}, "from_tree": {"tree": ("sum", (("one",), ("one",)))}, "shape": {"order": ORDER},
        "from_shape": {"shape": SHAPE}, "is_shape": {"told": SHAPE}},
    "lists": {
        "is_list": {"told": TWO}, "lets": {"forbidden": TWO, "order": ORDER}, "least": {"forbidden": TWO},
        "lies_within": {"one": TWO, "other": FALLING}, "same": {"one": TWO, "other": FALLING},
        "parting": {"one": TWO, "other": FALLING}, "met": {"one": TWO, "other": FALLING},
        "joined": {"one": TWO, "other": FALLING}, "let_of": {"forbidden": TWO, "n": 4},
        "is_finite": {"forbidden": TWO}, "turned_list": {"forbidden": TWO}, "mirrored_list": {"forbidden": TWO},
        "inverse_list": {"forbidden": TWO}, "is_summed": {"forbidden": TWO}, "is_skew_summed": {"forbidden": TWO}},
    "slots": {
        "is_form": {"told": (0, 1)}, "slots": {"form": (0, 1)}, "put": {"form": (0, 1), "letter": (1, 2)},
        "letters": {"form": (0, 1)}, "led": {"word": WORD}, "word_of": {"order": ORDER}, "order_of": {"word": WORD},
        "widest": {"order": ORDER}, "is_open": {"forbidden": TWO, "form": (0, 1)},
        "filling": {"forbidden": TWO, "form": (0, 1)}},
    "alternations": {
        "alternation": {"kind": (1, -1), "n": 3}, "stops": {"forbidden": TWO, "kind": (1, -1)},
        "stopped": {"forbidden": TWO}, "endless": {"forbidden": TWO}, "most_slots": {"forbidden": TWO}},
    "machines": {
        "is_machine": {"told": MACHINE}, "spells": {"machine": MACHINE, "word": WORD}, "machine": {"forbidden": TWO},
        "least_machine": {"machine": MACHINE}, "same_words": {"one": MACHINE, "other": OTHER},
        "met_machine": {"one": MACHINE, "other": OTHER}, "joined_machine": {"one": MACHINE, "other": OTHER},
        "less_machine": {"one": MACHINE, "other": OTHER}, "words": {"machine": MACHINE, "n": 3}},
    "counts": {
        "count": {"forbidden": TWO, "n": 5}, "counts": {"forbidden": TWO, "n": 5}, "rule": {"forbidden": TWO},
        "degree": {"forbidden": TWO}},
    "rates": {"rate": {"forbidden": TWO}, "faster": {"one": TWO, "other": FALLING}},
}
LISTS = {"places", "parts_of", "orders", "blocks", "let_of", "letters", "words", "counts"}
TRUTHS = {"shows", "lets", "lies_within", "same", "stops", "spells"}


def all_calls():
    """Return (module, function, arguments by name) for each function of the interface."""
    found = []
    for module, functions in CALLS.items():
        for name, told in functions.items():
            found.append((module, getattr(importlib.import_module("wholeorders." + module), name), told))
    return found


def holds_lists(value):
    """Tell whether a value is a list, or a tuple with a list somewhere in it."""
    return isinstance(value, list) or isinstance(value, tuple) and any(holds_lists(inner) for inner in value)


class CallsTest(unittest.TestCase):
    def test_each_function_is_defined_in_its_own_file(self):
        for module, function, _ in all_calls():
            self.assertEqual(function.__module__, "wholeorders." + module)

    def test_the_names_of_the_arguments(self):
        for _, function, told in all_calls():
            self.assertEqual(list(inspect.signature(function).parameters), list(told))

    def test_by_position_and_by_name(self):
        for _, function, told in all_calls():
            with self.subTest(function=function.__name__):
                answer = function(**told)
                self.assertEqual(function(*told.values()), answer)
                self.assertEqual(function(**dict(reversed(list(told.items())))), answer)

    def test_what_is_handed_in_is_as_it_was(self):
        for _, function, told in all_calls():
            before = copy.deepcopy(told)
            function(**told)
            self.assertEqual(told, before)
            self.assertEqual(repr(told), repr(before))

    def test_a_returned_list_that_is_changed_changes_no_later_answer(self):
        for _, function, told in all_calls():
            answer = function(**told)
            self.assertEqual(isinstance(answer, list), function.__name__ in LISTS)
            if isinstance(answer, list):
                before = list(answer)
                answer.append("more")
                del answer[0]
                self.assertEqual(function(**told), before)
                self.assertFalse(any(holds_lists(inner) for inner in before))
            else:
                self.assertFalse(holds_lists(answer))

    def test_truths_are_true_or_false(self):
        for _, function, told in all_calls():
            answer = function(**told)
            truth = function.__name__.startswith("is_") or function.__name__ in TRUTHS
            self.assertEqual(isinstance(answer, bool), truth, function.__name__)


if __name__ == "__main__":
    unittest.main()
