"""wholeorders.errors: the classes, their one argument and their attribute."""

import unittest

from wholeorders import errors

NAMES = (
    "InvalidOrder InvalidPattern InvalidList InvalidForm InvalidLetter InvalidWord InvalidKind InvalidNumber "
    "InvalidPair InvalidMachine NoMachine InvalidTape InvalidSorter InvalidSaying InvalidName NotLet UnknownName "
    "NothingToUndo Unreadable Unorderly TooMany NotFew InvalidPin InvalidFamily InvalidFact InvalidNode "
    "InvalidPaper").split()


class ErrorsTest(unittest.TestCase):
    def test_the_first_class(self):
        self.assertEqual(errors.OrderError.__bases__, (ValueError,))
        self.assertEqual(errors.OrderError.__module__, "wholeorders.errors")

    def test_each_other_class_is_of_the_first_one(self):
        for name in NAMES:
            with self.subTest(name=name):
                kind = getattr(errors, name)
                self.assertEqual(kind.__name__, name)
                self.assertEqual(kind.__module__, "wholeorders.errors")
                self.assertEqual(kind.__bases__, (errors.OrderError,))

    def test_one_argument_by_position_or_by_name(self):
        for name in ["OrderError"] + NAMES:
            kind = getattr(errors, name)
            for value in (3, None, (1, 2), [], "text", ((), (1,)), -10 ** 6000):
                with self.subTest(name=name):
                    self.assertIs(kind(value).value, value)
                    self.assertIs(kind(value=value).value, value)
            for told in ((), (1, 2)):
                with self.assertRaises(TypeError):
                    kind(*told)
            with self.assertRaises(TypeError):
                kind(other=1)

    def test_caught_as_the_first_class_and_as_a_value_error(self):
        for kind in (errors.OrderError, ValueError):
            with self.assertRaises(kind) as caught:
                raise errors.NotLet((1, 2))
            self.assertEqual(caught.exception.value, (1, 2))


if __name__ == "__main__":
    unittest.main()
