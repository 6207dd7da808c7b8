"""wholeorders.readers: what has a text is read back from it, and nothing else is."""

import unittest

from tests.helpers import Case
from tests.text_things import THINGS, TWO_HUNDRED, bent_texts, machine_text
from wholeorders import readers
from wholeorders.errors import Unreadable
from wholeorders.facts import is_fact
from wholeorders.blocks import is_shape, is_simple
from wholeorders.families import kinds
from wholeorders.lists import is_list
from wholeorders.machines import is_machine
from wholeorders.patterns import is_order
from wholeorders.pins import is_pin_word
from wholeorders.sayings import is_saying

TESTS = {"order": is_order, "list": is_list, "saying": is_saying, "pin": is_pin_word, "shape": is_shape, "fact": is_fact,
         "machine": is_machine}
ONE_LINE = ("order", "list", "word", "saying", "pin", "shape", "fact")
WRONG = {
    "order": ["", " ", "1 3", "0", "2", "1 1", "01", "1 02", "+1", "-1", "--", "- ", " -", "1  2", "1 2 ", " 1 2", "1,2", "1, 2",
              "1 a", "[1 2]", "1234567890", "2 1 1234567890", "()", "1 -", "- 1", "1.0", "one"],
    "list": ["", " ", "-, 1", "1, -", "-, -", "1,2", "1 2,2 1", "1 2 , 2 1", "1 2,  2 1", ", 1", "1, ", "1,", "1 3", "1 2, 1 3",
             "[1 2]", "01", "- ", "1 2; 2 1", "2 1, 1234567890"],
    "word": ["", " ", "0m", "1", "m", "1x", "1M", "01m", "-1m", "+1m", "1m 1", "1m  1f", "1m ", " 1m", "1m,1f", "1m, 1f", "m1",
             "1mm", "1 m", "- ", "1234567890m", "1m -", "(1m)", "00m"],
    "saying": ["", "list", "list [2 1]", "(list 2 1)", "(list [2 1]", "list [2 1])", "(list [2 1)", "(list 2 1])", "(list)",
               "(list [])", "(list [2 1] [1 2])", "(list [2 1] )", "( list [2 1])", "(list  [2 1])", "(list[2 1])", "(list [ 2 1])",
               "(list [2 1 ])", "(list [1 3])", "(list [2 1,1 2])", "(list [2 1],[1 2])", "(sorted)", "(sorted stacks)",
               "(sorted Stack)", "(sorted stack stack)", "(sorted [stack])", "(sorted (stack))", "(turned)", "(turned stack)",
               "(turned (list [2 1]) (list [2 1]))", "(turned (list [2 1]) )", "(both (list [2 1]))", "(both (list [2 1])(list [2 1]))",
               "(both (list [2 1]) (list [2 1]) (list [2 1]))", "(neither (list [2 1]) (list [2 1]))", "()", "(())", "((list [2 1]))",
               "(list [2 1]) ", " (list [2 1])", "(list [2 1]))", "((list [2 1])", "[2 1]", "[list]", ")(", "(list [[2 1]])",
               "(list [2 1]]", "([list] [2 1])", "((sorted) stack)", "(list -)", "(list ([2 1]))", "(list [1234567890])"],
    "pin": ["", " ", "0", "5", "u", "1 1", "1 u u", "1 u d", "1 l r", "1 u 2", "1  u", "1 u ", " 1", "1u", "1,u", "01", "+1", "-1",
            "1 U", "1 x", "- ", "-1 u", "1 -", "d 1", "1 du", "1 u  l"],
    "shape": ["", "O", "0", "oo", "o o", "(o)", "()", "(+ o)", "(+ o o o)", "(+ (+ o o) o)", "(- (- o o) o)", "(+ o o", "+ o o",
              "(+ o o))", "( + o o)", "(+ o  o)", "(+ o o )", "(+o o)", "(* o o)", "(sum o o)", "(o + o)", "([2 4 1 3] o o o)",
              "([2 4 1 3] o o o o o)", "([2 4 1 3])", "([1 2 3 4] o o o o)", "([2 4 1 3] o o o o", "([2 4 1 3]o o o o)",
              "([ 2 4 1 3] o o o o)", "([2 4 1] o o o)", "(2 4 1 3 o o o o)", "([2 4 1 3 o o o o)", "[2 4 1 3]", "([2, 4, 1, 3] o o o o)",
              "(([2 4 1 3]) o o o o)", "o ", " o", "(+ o [2 4 1 3])", "(+ (o) o)", "([1 2] o o)", "([2 1] o o)", "([-] )"],
    "fact": ["", "shows", "(shows)", "(shows 2 1)", "(shows [])", "(shows [-])", "(shows [2 1] 2)", "(shows [2 1] -2)",
             "(shows [2 1] 1 0)", "(shows [2 1] 0 0)", "(shows [2 1] -0)", "(shows [2 1] 00)", "(shows [2 1] +1)", "(shows [2 1] -1,0)",
             "(shows [2 1]  0)", "(shows [2 1] 0 )", "(shows [2 1]0)", "(shows [2 1] (0))", "(shows [2 1] [0])", "(shows [1 3])",
             "(shows [2 1] x)", "(shows 0 [2 1])", "(shows [2 1] 0", "shows [2 1] 0)", "(rest things 2)", "(rest things 2 2)",
             "(rest things 0 0)", "(rest things 2 -1)", "(rest thing 2 0)", "(rest 2 0 things)", "(rest things 2 0 0)",
             "(rest things 02 0)", "(rest things 2 0) ", " (rest things 2 0)", "(rest (things) 2 0)", "(rest [things] 2 0)",
             "(rest things 1234567890 0)", "(rest)", "(least)", "(least things)", "(least things -1)", "(least things 1 1)",
             "(least 3 things)", "(most things 1)", "(least things 1234567890)", "(not)", "(not rest things 2 0)", "(not (least tops 1) )",
             "(not (least tops 1) (least tops 1))", "(both (least tops 1))", "(both (least tops 1)(least tops 2))",
             "(either (least tops 1) (least tops 2) (least tops 3))", "()", "(())", "((least tops 1))", "(least tops 1))", "((least tops 1)",
             "(Least tops 1)", "(least  tops 1)", "[least tops 1]", "(not [least tops 1])", "(least tops 1.0)", ")", "("],
}


class ReadersTest(Case):
    def test_each_thing_is_read_back(self):
        for name, (things, text_of) in THINGS.items():
            read = getattr(readers, "read_" + name)
            for thing in things:
                self.assertEqual(read(text_of(thing)), thing)

    def test_what_is_wrong_in_one_line(self):
        for name, texts in WRONG.items():
            read = getattr(readers, "read_" + name)
            for text in texts:
                for more in ("", "\n", "\no", "\n" + text):
                    self.assert_raises(Unreadable, 1, read, text + more)

    def test_one_line_more(self):
        for name in ONE_LINE + ("fate",):
            read = getattr(readers, "read_" + name)
            things, text_of = THINGS[name]
            for text in [text_of(thing) for thing in things[:40]]:
                if not text.startswith("few"):
                    for more in ("\n", "\n" + text, "\n\n", "\nx", "\n-"):
                        self.assert_raises(Unreadable, 2, read, text + more)
                    self.assert_raises(Unreadable, 1, read, "\n" + text)

    def test_bent_texts(self):
        """What is read has just the text; a text that something known has is read."""
        for name, (things, text_of) in THINGS.items():
            read = getattr(readers, "read_" + name)
            known = {text_of(thing): thing for thing in things}
            short = [text for text in sorted(known, key=len) if len(text) < 60]
            for text in short[:12] + short[12::9]:
                for bent in bent_texts(text):
                    try:
                        found = read(bent)
                    except Unreadable as error:
                        self.assertNotIn(bent, known)
                        self.assertIn(error.value, range(bent.count("\n") + 2))
                        if name in ONE_LINE:
                            self.assertEqual(error.value, 2 if bent.split("\n")[0] in known else error.value)
                            self.assertIn(error.value, (1, 2))
                    else:
                        self.assertEqual(text_of(found), bent)
                        self.assertTrue(name not in TESTS or TESTS[name](found))
                        self.assertEqual(found, known.get(bent, found))

    def test_digits(self):
        self.assertEqual(readers.read_word("123456789m"), ((123456789, 0),))
        self.assertEqual(readers.read_fact("(least tops 123456789)"), ("least", "tops", 123456789))
        self.assertEqual(readers.read_fate("few 123456789"), ("few", (), 123456789))
        self.assert_raises(Unreadable, 1, readers.read_word, "1234567890m")
        self.assert_raises(Unreadable, 1, readers.read_fact, "(least tops 1234567890)")
        self.assert_raises(Unreadable, 1, readers.read_fate, "few 1234567890")
        self.assert_raises(Unreadable, 2, readers.read_fate, "few 8\n1 1234567890")
        self.assert_raises(Unreadable, 1, readers.read_machine, "0 : 1m 1234567890")

    def test_told_ones(self):
        self.assertEqual(readers.read_order("-"), ())
        self.assertEqual(readers.read_word("7m 1f"), ((7, 0), (1, 3)))
        self.assertEqual(readers.read_saying("(turned (list [-]))"), ("turned", ("list", ())))
        self.assertEqual(readers.read_fact("(shows [2 1] -1 0)"), ("shows", (2, 1), (-1, 0)))


class MachineTest(Case):
    def test_the_first_line_that_can_not_stand(self):
        right = "0 : 1m 0, 1f 1\n1 end : -"
        self.assertEqual(readers.read_machine(right), (((((1, 0), 0), ((1, 3), 1)), ()), (1,)))
        wrong = ("", " ", "-", ": -", "K : ", "K : - ", " K : -", "K  : -", "K :  -", "K: -", "K :-", "K end: -", "K  end : -",
                 "Kend : -", "K end end : -", "K ends : -", "0K : -", "+K : -", "K : 1m", "K : 1m -1", "K : 1m 01", "K : 1m  0",
                 "K : 1m 0,", "K : 1m 0,1f 0", "K : 1m 0, ", "K : 1m 0 1f 0", "K : 0m 0", "K : 01m 0", "K : 1x 0", "K : m 0", "K : 0",
                 "K : -, 1m 0", "K : 1m 0 0", "K : 1m 0 : -", "K : [1m 0]", "K", "K :", "K : 1m 1234567890", "K : 1234567890m 0",
                 "K end", "end : -", "K END : -")
        for line in wrong:
            self.assert_raises(Unreadable, 1, readers.read_machine, line.replace("K", "0"))
            self.assert_raises(Unreadable, 1, readers.read_machine, line.replace("K", "0") + "\nx")
            self.assert_raises(Unreadable, 2, readers.read_machine, "0 : 1m 7\n" + line.replace("K", "1"))
            self.assert_raises(Unreadable, 2, readers.read_machine, "0 : -\n" + line.replace("K", "1") + "\n2 : -")
            self.assert_raises(Unreadable, 3, readers.read_machine, right + "\n" + line.replace("K", "2"))
        for line in ("1 : -", "-0 : -", "00 : -"):
            self.assert_raises(Unreadable, 1, readers.read_machine, line)
        self.assert_raises(Unreadable, 2, readers.read_machine, "0 : -\n2 : -")
        self.assert_raises(Unreadable, 2, readers.read_machine, "0 : -\n0 : -")
        self.assert_raises(Unreadable, 3, readers.read_machine, right + "\n")

    def test_right_lines_that_come_to_no_machine(self):
        for text in ("0 : 1m 1", "0 end : 1m 999999999", "0 : 1f 0, 1m 0", "0 : 1m 0, 1m 0", "0 : 2m 0, 1m 0", "0 : 1m 0, 1f 1\n1 : 1m 2",
                     "0 : 1m 0, 1m 1\n1 : -", "0 : 10m 0, 9m 0"):
            self.assert_raises(Unreadable, 0, readers.read_machine, text)

    def test_two_hundred_states(self):
        text = machine_text(TWO_HUNDRED)
        self.assertEqual(readers.read_machine(text), TWO_HUNDRED)
        lines = text.split("\n")
        for at in (0, 57, 199):
            bent = lines[:at] + [lines[at] + " "] + lines[at + 1:]
            self.assert_raises(Unreadable, at + 1, readers.read_machine, "\n".join(bent))
            self.assert_raises(Unreadable, at + 1, readers.read_machine, "\n".join(lines[:at] + [lines[at - 1]] + lines[at + 1:]))


class FateTest(Case):
    def test_few(self):
        for text in ("few", "few ", "few x", "few -1", "few 04", "few +4", "few  4", "few 4 ", " few 4", "Few 4", "few 4 4", "fews 4",
                     "few 1234567890", "few -0", "", "4", "few (4)"):
            self.assert_raises(Unreadable, 1, readers.read_fate, text)
            self.assert_raises(Unreadable, 1, readers.read_fate, text + "\n2 4 1 3")
        for n in (0, 1, 3):
            self.assert_raises(Unreadable, 0, readers.read_fate, f"few {n}")
            self.assert_raises(Unreadable, 2, readers.read_fate, f"few {n}\n2 4 1 4")
        for lines in ("2 4 1 3\n2 4 1 3", "3 1 4 2\n2 4 1 3", "2 4 1 5 3\n2 4 1 3", "1", "-", "2 1", "1 2 3 4", "2 4 1 3\n2 1", "1\n2 4 1 3",
                      "2 4 6 1 3 5", "2 4 1 3\n2 4 6 1 3 5"):
            self.assert_raises(Unreadable, 0, readers.read_fate, "few 6\n" + lines)
        self.assert_raises(Unreadable, 0, readers.read_fate, "few 4\n2 4 1 3")
        for wrong in ("", " ", "2 4 1 4", "2  4 1 3", "2 4 1 3 ", "o", "few 6", "1 2, 2 1"):
            self.assert_raises(Unreadable, 2, readers.read_fate, "few 6\n" + wrong)
            self.assert_raises(Unreadable, 2, readers.read_fate, "few 6\n" + wrong + "\n2 4 1 3")
            self.assert_raises(Unreadable, 3, readers.read_fate, "few 6\n1 2\n" + wrong)
            self.assert_raises(Unreadable, 4, readers.read_fate, "few 2\n1 2\n-\n" + wrong)
        self.assertEqual(readers.read_fate("few 7\n2 4 1 3\n2 4 6 1 3 5"), ("few", ((2, 4, 1, 3), (2, 4, 6, 1, 3, 5)), 7))
        self.assertTrue(all(is_simple(order) for order in readers.read_fate("few 9\n3 1 4 2")[1]))

    def test_families(self):
        known = kinds()
        for name in ("between", "open", "parallel", "Open", "", "opened"):
            for posture in range(-1, 10):
                text = f"family {name} {posture}"
                if (name, posture) in known:
                    self.assertEqual(readers.read_fate(text), ("family", (name, posture)))
                    self.assert_raises(Unreadable, 2, readers.read_fate, text + "\n")
                else:
                    self.assert_raises(Unreadable, 1, readers.read_fate, text)
        for text in ("family", "family ", "family open", "family open ", "family open 0 ", "family open  0", "family  open 0", " family open 0",
                     "family open 00", "family open +0", "family open 0 0", "families open 0", "open 0", "family (open 0)", "family 0 open"):
            for more in ("", "\n", "\n2 4 1 3"):
                self.assert_raises(Unreadable, 1, readers.read_fate, text + more)

    def test_roads(self):
        self.assertEqual(readers.read_fate("pins 1 / u l"), ("pins", (1,), ("u", "l")))
        for text in ("pins", "pins ", "pins 1", "pins 1 /", "pins 1 / ", "pins / u l", "pins - / u l", "pins 1 / -", "pins 1/ u l", "pins 1 /u l",
                     "pins 1  / u l", "pins 1 /  u l", "pins 1 / u l ", " pins 1 / u l", "pins 1 / u", "pins 1 / u d", "pins 1 u / u l",
                     "pins 1 / u l u", "pins 1 / 1 u", "pins 1 / u l / u l", "pins 5 / u l", "pins 01 / u l", "pins u / u l", "pins 1 / U L",
                     "pins 1 1 / u l", "pin 1 / u l", "pins (1) / u l", "pins 1 / ul", "pins 1 - / u l"):
            for more in ("", "\n", "\n2 4 1 3"):
                self.assert_raises(Unreadable, 1, readers.read_fate, text + more)


if __name__ == "__main__":
    unittest.main()
