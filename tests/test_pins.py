"""wholeorders.pins: pin words, their orders, and the machines and roads of the words of a list."""

import random
import unittest

from tests.helpers import (FAMILY_LISTS, FEW_LISTS, LISTS, NO_LISTS, NO_NUMBERS, NO_ORDERS, NOTHING, RISING,
                           ROAD_LISTS, STAIRS, Case, all_orders, all_pin_words, is_least_machine, orders_to,
                           slow_is_simple, slow_lets, slow_pattern, slow_pin_order, slow_pins)
from wholeorders.errors import InvalidList, InvalidNumber, InvalidOrder, InvalidPin
from wholeorders.lists import lets
from wholeorders.patterns import inverse, is_order, mirrored, turned
from wholeorders.pins import (inverse_pin, is_pin_word, left_out, mirrored_pin, pin_count, pin_lets, pin_machine,
                              pin_order, pin_places, pin_road, pin_words, turned_pin)

NO_PINS = (
    None, 1, "", "u", "1u", [], [1], (0,), (5,), (-1,), (True,), ("u",), ("1",), (None,), ((1,),), (1, 2), (1, "x"),
    (1, "U"), (1, "u", "u"), (1, "u", "d"), (1, "l", "r"), (1, "u", "r", "l"), (1, "ur"), (1, "u", 1), (1, ""),
    (1, None), (1, ["u"]), (1, ("u",)), [1, "u"], (1, "u", "r", "d", "d"), (1, b"u"), (1, "u", 2), (1, True), {},
    (2, "l", "u", "r", "d", None))
LONG = (3,) + ("r", "u", "l", "d") * 14 + ("r", "u", "r")
WORDS = [word for n in range(6) for word in all_pin_words(n)]
SOME_LISTS = LISTS + FEW_LISTS[:12] + tuple(told[0] for told in ROAD_LISTS[:4]) + (
    ((2, 4, 1, 5, 3), (5, 3, 1, 4, 2), (1, 2, 3, 4, 5)), ((3, 5, 1, 4, 2), (2, 1), (1, 3, 2)), ((5, 2, 4, 1, 3),))
SIX_OF_FIVE = ((1, 4, 2, 5, 3), (2, 1, 4, 5, 3), (3, 5, 2, 1, 4), (4, 1, 5, 2, 3), (4, 5, 1, 3, 2), (5, 3, 4, 1, 2))


def let_words(forbidden, n):
    """Return the pin words of n letters whose orders a list lets, ascending."""
    return [word for word in all_pin_words(n) if slow_lets(forbidden, slow_pin_order(word))]


def spelled(rows, n):
    """Return the words of n letters that the rows of a machine spell, ascending."""
    found = [((), 0)]
    for _ in range(n):
        found = [(word + (letter,), after) for word, state in found for letter, after in rows[state]]
    return sorted(word for word, _ in found)


def states_behind(rows, state):
    """Return the set of the states to which one letter or more lead from a state."""
    found = set()
    waiting = [state]
    while waiting:
        for _, after in rows[waiting.pop()]:
            if after not in found:
                found.add(after)
                waiting.append(after)
    return found


def slow_road(rows):
    """Return the road that the document names, by going through all words in their sequence, or None."""
    if not any(state in states_behind(rows, state) for state in range(len(rows))):
        return None
    ahead = [((), 0)]
    while True:
        ahead = sorted((word + (letter,), after) for word, state in ahead for letter, after in rows[state])
        for seed, state in ahead:
            if state in states_behind(rows, state):
                behind = [((), state)]
                while True:
                    behind = sorted((word + (letter,), after) for word, at in behind for letter, after in rows[at])
                    for way, after in behind:
                        if after == state:
                            return seed, way


class WordsTest(Case):
    def test_is_pin_word(self):
        for word in WORDS + [LONG, LONG[:60]]:
            self.assertIs(is_pin_word(word), True)
        for told in NO_PINS:
            self.assertIs(is_pin_word(told), False, told)
        self.assertEqual([len(all_pin_words(n)) for n in range(5)], [1, 4, 16, 32, 64])

    def test_a_word_leads_to_its_order(self):
        for word in WORDS + [LONG]:
            found = pin_order(word)
            pins = slow_pins(word)
            self.assertEqual(found, slow_pin_order(word))
            self.assertEqual(pin_places(word), tuple(sorted(pins).index(pin) for pin in pins))
            self.assertEqual(tuple(found[place] for place in pin_places(word)), slow_pattern([y for _, y in pins]))

    def test_told_ones(self):
        self.assertEqual([pin_order(()), pin_places(())], [(), ()])
        self.assertEqual([(pin_order((letter,)), pin_places((letter,))) for letter in (1, 2, 3, 4)], [((1,), (0,))] * 4)
        self.assertEqual(pin_order((1, "u", "r", "d", "l")), (2, 5, 3, 1, 4))
        self.assertEqual(pin_places((1, "u", "r", "d", "l")), (2, 1, 4, 3, 0))
        self.assertEqual([pin_order((1, letter)) for letter in "dlru"], [(1, 2), (1, 2), (2, 1), (2, 1)])
        self.assertEqual(pin_order((3, "u", "r", "u", "r", "u")), (1, 3, 5, 2, 6, 4))

    def test_words_of_sixty_letters(self):
        word = LONG[:60]
        self.assertEqual(len(word), 60)
        self.assertTrue(is_order(pin_order(word)))
        self.assertEqual(sorted(pin_places(word)), list(range(60)))
        self.assertEqual(pin_order(turned_pin(word)), turned(pin_order(word)))
        self.assertEqual(pin_order(mirrored_pin(word)), mirrored(pin_order(word)))
        self.assertEqual(pin_order(inverse_pin(word)), inverse(pin_order(word)))

    def test_turns(self):
        for word in WORDS:
            for turn, told in ((turned_pin, turned), (mirrored_pin, mirrored), (inverse_pin, inverse)):
                self.assertTrue(is_pin_word(turn(word)))
                self.assertEqual(turn(turn(word)), word)
                self.assertEqual(pin_order(turn(word)), told(pin_order(word)))
        self.assertEqual(turned_pin((1, "l", "u")), (2, "r", "u"))
        self.assertEqual(turned_pin((4, "r", "d")), (3, "l", "d"))
        self.assertEqual(mirrored_pin((2, "l", "u")), (3, "l", "d"))
        self.assertEqual(mirrored_pin((4, "u")), (1, "d"))
        self.assertEqual(inverse_pin((2, "l", "u")), (4, "d", "r"))
        self.assertEqual(inverse_pin((3, "r", "d")), (3, "u", "l"))
        self.assertEqual([turn(()) for turn in (turned_pin, mirrored_pin, inverse_pin)], [()] * 3)

    def test_all_words_of_an_order(self):
        for n in range(7):
            by_order = {order: [] for order in all_orders(n)}
            for word in all_pin_words(n):
                by_order[slow_pin_order(word)].append(word)
            for order, words in by_order.items():
                self.assertEqual(pin_words(order), words)
        self.assertEqual([pin_words(()), pin_words((1,))], [[()], [(1,), (2,), (3,), (4,)]])
        self.assertEqual(pin_words((2, 1)), [(1, "r"), (1, "u"), (2, "d"), (2, "r"), (3, "d"), (3, "l"), (4, "l"), (4, "u")])
        self.assertEqual(pin_words((1, 2, 3, 4)), [])

    def test_errors(self):
        for told in NO_PINS:
            for function in (pin_order, pin_places, turned_pin, mirrored_pin, inverse_pin, left_out):
                self.assert_raises(InvalidPin, told, function, told)
        for told in NO_ORDERS:
            self.assert_raises(InvalidOrder, told, pin_words, told)


class LeftOutTest(Case):
    def test_of_all_words_of_few_letters(self):
        for word in [word for n in range(8) for word in all_pin_words(n)]:
            simple = [fewer for fewer in ((), (0,), (1,)) if slow_is_simple(slow_pin_order(word, fewer))]
            self.assertEqual(left_out(word), simple[0] if simple else None)
            if len(word) >= 5:
                self.assertTrue(simple)

    def test_told_ones(self):
        self.assertEqual([left_out(word) for word in ((), (1,), (1, "u"), (1, "u", "r"))], [None] * 4)
        self.assertEqual(left_out((1, "d", "l", "d", "l")), (0,))
        self.assertEqual(left_out((1, "u", "r", "d", "l")), ())
        self.assertEqual(left_out((3, "r", "u", "r", "u", "r", "u", "r", "u", "r", "u", "r")), (0,))
        self.assertIn((1,), [left_out(word) for word in all_pin_words(6)])


class MachinesTest(Case):
    def test_they_spell_just_the_words_of_the_list(self):
        for forbidden in SOME_LISTS:
            rows = pin_machine(forbidden)
            for n in range(7):
                self.assertEqual(spelled(rows, n), let_words(forbidden, n))
                self.assertEqual(pin_count(forbidden, n), len(let_words(forbidden, n)))
        for forbidden in (SIX_OF_FIVE,) + tuple(told[0] for told in ROAD_LISTS):
            rows = pin_machine(forbidden)
            for n in (7, 8, 9):
                self.assertEqual(spelled(rows, n), [word for word in all_pin_words(n) if lets(forbidden, pin_order(word))])

    def test_the_least_ones(self):
        for forbidden in SOME_LISTS + (SIX_OF_FIVE,) + tuple(told[0] for told in ROAD_LISTS + FAMILY_LISTS):
            rows = pin_machine(forbidden)
            self.assertIs(type(rows), tuple)
            for at, row in enumerate(rows):
                self.assertIs(type(row), tuple)
                letters = [letter for letter, _ in row]
                self.assertEqual(letters, sorted(set(letters)))
                self.assertTrue(all(type(step) is tuple and len(step) == 2 for step in row))
                self.assertTrue(set(letters) <= ({1, 2, 3, 4} if at == 0 else set("dlru")))
            self.assertTrue(is_least_machine((rows, tuple(range(len(rows))))))
            self.assertEqual(pin_machine(forbidden[::-1] + forbidden), rows)

    def test_chance_lists(self):
        chance = random.Random(8)
        for _ in range(25):
            sizes = [chance.choice((3, 4, 5, 5, 6, 7)) for _ in range(chance.randint(1, 6))]
            forbidden = tuple(tuple(chance.sample(range(1, size + 1), size)) for size in sizes)
            rows = pin_machine(forbidden)
            self.assertTrue(is_least_machine((rows, tuple(range(len(rows))))))
            for n in (5, 8):
                self.assertEqual(spelled(rows, n), [word for word in all_pin_words(n) if lets(forbidden, pin_order(word))])

    def test_told_ones(self):
        self.assertEqual(pin_machine(NOTHING), ((),))
        self.assertEqual(pin_machine(((1, 2), (2, 1))), (((1, 1), (2, 1), (3, 1), (4, 1)), ()))
        around = (("d", 2), ("l", 3), ("r", 3), ("u", 2))
        self.assertEqual(pin_machine(()), (
            ((1, 1), (2, 1), (3, 1), (4, 1)), around, (("l", 3), ("r", 3)), (("d", 2), ("u", 2))))
        self.assertEqual(pin_machine(((1, 2),))[:3], (
            ((1, 1), (2, 2), (3, 3), (4, 4)), (("r", 5), ("u", 5)), (("d", 5), ("r", 5))))

    def test_counts(self):
        self.assertEqual([pin_count(STAIRS, n) for n in range(7)], [1, 4, 16, 32, 48, 32, 32])
        self.assertEqual([pin_count((), n) for n in range(6)], [1, 4, 16, 32, 64, 128])
        self.assertEqual(pin_count((), 200), 2 ** 202)
        self.assertEqual([pin_count(NOTHING, n) for n in (0, 1, 200)], [1, 0, 0])
        self.assertEqual([pin_count(RISING, n) for n in (0, 1, 2, 3, 200)], [1, 4, 8, 0, 0])
        self.assertEqual(pin_count(STAIRS, 200), 32)

    def test_pin_lets(self):
        for forbidden in SOME_LISTS:
            for word in WORDS[:60]:
                self.assertIs(pin_lets(forbidden, word), slow_lets(forbidden, slow_pin_order(word)))
        self.assertIs(pin_lets(NOTHING, ()), True)
        self.assertIs(pin_lets(STAIRS, (3, "r", "u", "r", "u", "r", "u", "r", "u", "r", "u", "r")), True)
        self.assertIs(pin_lets(STAIRS, (3, "r", "u", "r", "u", "r", "u", "r", "u", "r", "u", "l")), False)

    def test_errors(self):
        for told in NO_PINS:
            self.assert_raises(InvalidPin, told, pin_lets, ((1, 2),), told)
            self.assert_raises(InvalidPin, told, pin_lets, (7,), told)
        for told in NO_LISTS:
            self.assert_raises(InvalidList, told, pin_lets, told, (1, "u"))
            self.assert_raises(InvalidList, told, pin_machine, told)
            self.assert_raises(InvalidList, told, pin_road, told)
            self.assert_raises(InvalidList, told, pin_count, told, -1)
        for n in NO_NUMBERS:
            self.assert_raises(InvalidNumber, n, pin_count, STAIRS, n)


class RoadsTest(Case):
    def test_the_first_road(self):
        for forbidden in SOME_LISTS + (SIX_OF_FIVE,) + tuple(told[0] for told in ROAD_LISTS + FAMILY_LISTS):
            self.assertEqual(pin_road(forbidden), slow_road(pin_machine(forbidden)))

    def test_roads_are_roads(self):
        for forbidden, road in ROAD_LISTS:
            self.assertEqual(pin_road(forbidden), road)
            seed, way = road
            for times in range(5):
                self.assertTrue(is_pin_word(seed + way * times))
                self.assertTrue(lets(forbidden, slow_pin_order(seed + way * times)))

    def test_edges(self):
        self.assertEqual(pin_road(()), ((1, "d"), ("l", "d")))
        for forbidden in (NOTHING, RISING, ((1, 2),), ((1, 2), (2, 1))):
            self.assertIsNone(pin_road(forbidden))
        self.assertEqual(pin_road(STAIRS), ((1, "r", "d"), ("l", "d")))


if __name__ == "__main__":
    unittest.main()
