"""The errors of the program: each tells by its class what is wrong, and with which value."""


class OrderError(ValueError):
    """What all errors of the program have in common."""

    def __init__(self, value):
        ValueError.__init__(self, value)
        self.value = value


class InvalidOrder(OrderError):
    """What is told is no order, or not one that the function takes."""


class InvalidPattern(OrderError):
    """What is told is no pattern."""


class InvalidList(OrderError):
    """What is told is no list of patterns."""


class InvalidForm(OrderError):
    """What is told is no form."""


class InvalidLetter(OrderError):
    """What is told is no letter, or none that the form takes."""


class InvalidWord(OrderError):
    """What is told is no word, or not one that the function takes."""


class InvalidKind(OrderError):
    """What is told is no kind of alternation."""


class InvalidNumber(OrderError):
    """What is told is no integer, or out of its bounds."""


class InvalidPair(OrderError):
    """Things that are told do not fit together."""


class InvalidMachine(OrderError):
    """What is told is no machine."""


class NoMachine(OrderError):
    """No finite machine spells the orders: the value is a kind that is not stopped."""


class InvalidTape(OrderError):
    """What is told is no tape."""


class InvalidSorter(OrderError):
    """What is told is no sorter."""


class InvalidSaying(OrderError):
    """What is told is no saying."""


class InvalidName(OrderError):
    """What is told is no name."""


class NotLet(OrderError):
    """The order is not one of those that are meant."""


class UnknownName(OrderError):
    """Nothing has the name that is told."""


class NothingToUndo(OrderError):
    """There is nothing left to take back."""


class Unreadable(OrderError):
    """The text is none that can be read: the value is the number of a line."""


class Unorderly(OrderError):
    """The text is no order to a console."""


class TooMany(OrderError):
    """There are more than are wanted at most."""


class NotFew(OrderError):
    """Not only few simple orders are let: the value is the paper that says so."""


class InvalidPin(OrderError):
    """What is told is no pin word."""


class InvalidFamily(OrderError):
    """What is told is no kind of simple orders."""


class InvalidFact(OrderError):
    """What is told is no fact, no hooked pattern or no measure."""


class InvalidNode(OrderError):
    """What is told is no node."""


class InvalidPaper(OrderError):
    """What is told is no paper, no system or not of the form of traits."""
