"""wholeorders.machines: machines that spell words, and the least ones of lists."""

import random
import unittest

from tests.helpers import (ENDLESS_LISTS, MOST_STATES, NO_LISTS, NO_NUMBERS, NOTHING, RISING, STOPPING_LISTS,
                           THREE_KINDS_STOPPED, TWO, Case, all_orders, is_least_machine, orders_to, slow_lets, slow_word)
from wholeorders import machines
from wholeorders.errors import InvalidList, InvalidMachine, InvalidNumber, InvalidWord, NoMachine
from wholeorders.lists import inverse_list, met
from wholeorders.machines import (is_machine, joined_machine, least_machine, less_machine, machine, met_machine,
                                  same_words, spells, words)

NO_WORDS = (((),), ())
EMPTY_WORD = (((),), (0,))
A, B, C, D = (1, 0), (1, 1), (2, 3), (60, 2)
LOOP = ((((A, 0), (B, 0), (C, 0), (D, 0)),), (0,))
NO_MACHINES = (
    None, 3, "", (), [], ((), ()), ((), (0,)), (((),),), (((),), (), ()), [((),), ()], ([()], ()), (([],), ()),
    (((),), []), (((),), None), (((),), 0), (((),), (1,)), (((),), (-1,)), (((),), (0, 0)), (((), ()), (1, 0)),
    (((),), (True,)), (((),), (False,)), (((),), ("0",)), (((A, 0),), (0,)), ((((A, 1),),), ()), ((((A, -1),),), ()),
    ((((A, False),),), ()), ((((A, None),),), ()), (((((1, 4), 0),),), ()), (((((0, 1), 0),),), ()),
    (((((1, True), 0),),), ()), ((([1, 0], 0),),), (((([1, 0], 0),),), ()), ((([A, 0],),), ()), ((((A,),),), ()),
    ((((A, 0, 0),),), ()), ((((A, 0), (A, 0)),), ()), ((((B, 0), (A, 0)),), ()), ((((A, 0), (A, 1)), ()), ()), (None, ()))
NO_LETTER_ROWS = (None, 3, "", [], [A], (1, 0), ((1,),), ((0, 1),), ((1, 4),), ((1, -1),), ([1, 0],), ((1, 0, 0),),
                  ((True, 0),), ((1, False),), (A, None), (A, ()), (("1", 0),))
WORDS = [(), (A,), (B,), (A, A), (A, B), (B, A), (B, B), (A, A, B), (B, B, B), (A, C, D), (D,)]


def cycle(many, letters, ends):
    """Return a machine of many states in a ring, each letter leading on to the next state."""
    return tuple(tuple((letter, (at + 1) % many) for letter in letters) for at in range(many)), ends


def chance_machine(chance, many, letters):
    """Return some machine of many states."""
    rows = []
    for _ in range(many):
        kept = sorted(letter for letter in letters if chance.random() < 0.7)
        rows.append(tuple((letter, chance.randrange(many)) for letter in kept))
    return tuple(rows), tuple(state for state in range(many) if chance.random() < 0.3)


def words_to(machine, n):
    """Return the list of the words of at most n letters that a machine spells, by trying all ways."""
    rows, ends = machine
    ways = [((), 0)]
    found = []
    for _ in range(n + 1):
        found.extend(word for word, state in ways if state in ends)
        ways = [(word + (letter,), after) for word, state in ways for letter, after in rows[state]]
    return found


class IsMachineTest(Case):
    def test_machines(self):
        for told in (NO_WORDS, EMPTY_WORD, LOOP, (((), ()), (0, 1)), ((((A, 1), (D, 0)), ()), (1,)),
                     cycle(41, [(s, way) for s in range(1, 7) for way in range(4)], (0, 40))):
            self.assertIs(is_machine(told), True)

    def test_no_machines(self):
        for told in NO_MACHINES:
            self.assertIs(is_machine(told), False, told)


class OfListsTest(Case):
    def test_just_the_whole_words_of_what_is_let(self):
        for forbidden in STOPPING_LISTS:
            told = machine(forbidden)
            for n in range(1, 7):
                let = sorted(slow_word(order) for order in all_orders(n) if slow_lets(forbidden, order))
                self.assertEqual(words(told, n), let)
            self.assertEqual(words(told, 0), [])
            for order in orders_to(5)[1:]:
                self.assertIs(spells(told, slow_word(order)), slow_lets(forbidden, order))

    def test_the_least_one(self):
        for forbidden in STOPPING_LISTS + (MOST_STATES,):
            told = machine(forbidden)
            self.assertTrue(is_machine(told))
            self.assertTrue(is_least_machine(told))
            self.assertEqual(least_machine(told), told)

    def test_told_ones(self):
        self.assertEqual(machine(RISING), (((((1, 1), 0), ((1, 3), 1)), ()), (1,)))
        self.assertEqual(machine(NOTHING), NO_WORDS)
        self.assertEqual(machine(((1, 2), (2, 1))), (((((1, 3), 1),), ()), (1,)))
        self.assertEqual(machine(((1, 2),)), (((((1, 2), 0), ((1, 3), 1)), ()), (1,)))
        self.assertEqual(len(machine(TWO)[0]), 4)

    def test_as_many_states_as_they_may_have(self):
        told = machine(MOST_STATES)
        self.assertEqual(len(told[0]), 200)
        for n in range(1, 7):
            let = sorted(slow_word(order) for order in all_orders(n) if slow_lets(MOST_STATES, order))
            self.assertEqual(words(told, n), let)
        other = machine(inverse_list(MOST_STATES))
        both = met(MOST_STATES, inverse_list(MOST_STATES))
        self.assertEqual(met_machine(told, other), machine(both))

    def test_one_lot_has_one_machine(self):
        for forbidden in STOPPING_LISTS:
            self.assertEqual(machine(forbidden[::-1] + forbidden), machine(forbidden))

    def test_lists_that_stop_but_three_kinds_have_none(self):
        for forbidden, kind in ENDLESS_LISTS:
            self.assert_raises(NoMachine, kind, machine, forbidden)
        self.assert_raises(NoMachine, (1, -1), machine, forbidden=THREE_KINDS_STOPPED)

    def test_errors(self):
        for told in NO_LISTS:
            self.assert_raises(InvalidList, told, machine, told)


class WordsTest(Case):
    def test_spells(self):
        chance = random.Random(3)
        for _ in range(30):
            told = chance_machine(chance, chance.randint(1, 5), [A, B])
            found = words_to(told, 4)
            for word in WORDS:
                self.assertIs(spells(told, word), word in found)
        self.assertIs(spells(NO_WORDS, ()), False)
        self.assertIs(spells(EMPTY_WORD, ()), True)
        self.assertIs(spells(EMPTY_WORD, (A,)), False)
        self.assertIs(spells(LOOP, (A, B, C, D) * 10), True)

    def test_words(self):
        chance = random.Random(4)
        for _ in range(30):
            told = chance_machine(chance, chance.randint(1, 5), [A, B, C])
            found = words_to(told, 5)
            for n in range(6):
                self.assertEqual(words(told, n), sorted(word for word in found if len(word) == n))
        self.assertEqual([words(NO_WORDS, 0), words(EMPTY_WORD, 0), words(EMPTY_WORD, 1)], [[], [()], []])
        self.assertEqual(len(words(LOOP, 8)), 65536)

    def test_errors(self):
        for told in NO_MACHINES:
            self.assert_raises(InvalidMachine, told, spells, told, (A,))
            self.assert_raises(InvalidMachine, told, spells, told, None)
            self.assert_raises(InvalidMachine, told, words, told, 2)
            self.assert_raises(InvalidMachine, told, words, told, -1)
        for word in NO_LETTER_ROWS:
            self.assert_raises(InvalidWord, word, spells, LOOP, word)
        for n in NO_NUMBERS:
            self.assert_raises(InvalidNumber, n, words, LOOP, n)


class LeastTest(Case):
    def test_chance_machines(self):
        chance = random.Random(5)
        for _ in range(150):
            told = chance_machine(chance, chance.randint(1, 7), [A, B, D])
            found = least_machine(told)
            self.assertTrue(is_machine(found))
            self.assertTrue(is_least_machine(found), told)
            self.assertIsNone(same_words(told, found))
            self.assertEqual(sorted(words_to(found, 5)), sorted(words_to(told, 5)))

    def test_edges(self):
        self.assertEqual(least_machine(NO_WORDS), NO_WORDS)
        self.assertEqual(least_machine(EMPTY_WORD), EMPTY_WORD)
        self.assertEqual(least_machine(((((A, 0), (B, 0)),), ())), NO_WORDS)
        self.assertEqual(least_machine(((((A, 1),), (), ((A, 1),)), (2,))), NO_WORDS)
        self.assertEqual(least_machine(((((A, 1),), ((A, 0),)), (0, 1))), ((((A, 0),),), (0,)))
        self.assertEqual(least_machine(((((A, 2), (B, 1)), (), ()), (1, 2))), ((((A, 1), (B, 1)), ()), (1,)))
        told = ((((A, 2), (B, 1)), ((C, 2),), ()), (2,))
        self.assertEqual(least_machine(told), ((((A, 1), (B, 2)), (), ((C, 1),)), (1,)))
        ring = cycle(40, [A, B], tuple(range(0, 40, 4)))
        self.assertEqual(least_machine(ring), cycle(4, [A, B], (0,)))

    def test_errors(self):
        for told in NO_MACHINES:
            self.assert_raises(InvalidMachine, told, least_machine, told)


class TwoMachinesTest(Case):
    def check(self, one, other, n):
        by_one, by_other = set(words_to(one, n)), set(words_to(other, n))
        for function, wanted in ((met_machine, by_one & by_other), (joined_machine, by_one | by_other),
                                 (less_machine, by_one - by_other)):
            found = function(one, other)
            self.assertTrue(is_machine(found))
            self.assertTrue(is_least_machine(found))
            self.assertEqual(set(words_to(found, n)), wanted)
        apart = sorted(by_one ^ by_other, key=lambda word: (len(word), word))
        first = same_words(one, other)
        if apart:
            self.assertEqual(first, apart[0])
        elif first is not None:
            self.assertGreater(len(first), n)
            self.assertNotEqual(spells(one, first), spells(other, first))
        self.assertEqual(first is None, least_machine(one) == least_machine(other))

    def test_chance_machines(self):
        chance = random.Random(6)
        for _ in range(80):
            self.check(chance_machine(chance, chance.randint(1, 4), [A, B]),
                       chance_machine(chance, chance.randint(1, 4), [A, B, C]), 6)

    def test_machines_of_lists(self):
        for one in STOPPING_LISTS[:10]:
            for other in STOPPING_LISTS[:10]:
                self.check(machine(one), machine(other), 4)
                self.assertEqual(met_machine(machine(one), machine(other)), machine(met(one, other)))

    def test_machines_of_no_words(self):
        for told in (LOOP, EMPTY_WORD, NO_WORDS, machine(TWO)):
            self.assertEqual(met_machine(told, NO_WORDS), NO_WORDS)
            self.assertEqual(joined_machine(NO_WORDS, told), least_machine(told))
            self.assertEqual(less_machine(told, NO_WORDS), least_machine(told))
            self.assertEqual(less_machine(told, told), NO_WORDS)
            self.assertIsNone(same_words(told, told))
        self.assertEqual(same_words(EMPTY_WORD, NO_WORDS), ())
        self.assertEqual(same_words(NO_WORDS, LOOP), ())
        self.assertEqual(same_words(EMPTY_WORD, LOOP), (A,))

    def test_as_large_as_they_may_be(self):
        letters = [(slot, way) for slot in range(1, 7) for way in range(4)]
        one, other = cycle(41, letters, (0,)), cycle(40, letters, (0,))
        self.assertEqual(met_machine(one, other), cycle(1640, letters, (0,)))
        self.assertEqual(len(joined_machine(one, other)[0]), 1640)
        self.assertEqual(len(less_machine(one, other)[0]), 1640)
        self.assertEqual(same_words(one, other), ((1, 0),) * 40)
        self.assertEqual(least_machine(one), one)
        self.assertEqual(same_words(met_machine(one, other), NO_WORDS), ())
        self.assertEqual(same_words(cycle(41, letters, (40,)), cycle(40, letters, ())), ((1, 0),) * 40)

    def test_errors(self):
        for name in ("same_words", "met_machine", "joined_machine", "less_machine"):
            function = getattr(machines, name)
            for told in NO_MACHINES:
                self.assert_raises(InvalidMachine, told, function, told, LOOP)
                self.assert_raises(InvalidMachine, told, function, LOOP, told)
                self.assert_raises(InvalidMachine, told, function, told, (7,))


if __name__ == "__main__":
    unittest.main()
