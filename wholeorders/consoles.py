"""Consoles: named lists, and texts that ask for what holds of them."""

from wholeorders.answers import KEPT, TOLD, in_lines
from wholeorders.errors import InvalidName, NothingToUndo, Unorderly, UnknownName
from wholeorders.lists import check_list
from wholeorders.readers import fact_in, integer_in, list_in, order_in, saying_in

LETTERS = "abcdefghijklmnopqrstuvwxyz"
LONGEST_NAME = 8
DONE = "done"
# What stands behind each word: the last four of the sorts below take all that is left of a text.
FORMS = {
    "list": ("name", "patterns"), "say": ("name", "saying"), "both": ("name", "list", "list"),
    "either": ("name", "list", "list"), "turned": ("name", "list"), "mirrored": ("name", "list"),
    "inverse": ("name", "list"), "close": ("name", "list"), "drop": ("list",), "undo": (), "names": (),
    "show": ("list",), "lets": ("list", "order"), "same": ("list", "list"), "within": ("list", "list"),
    "finite": ("list",), "parting": ("list", "list"), "endless": ("list",), "count": ("list", "number"),
    "rule": ("list",), "rate": ("list",), "nth": ("list", "number", "number"), "place": ("list", "order"),
    "machine": ("list",), "shape": ("order",), "simple": ("list", "number"), "fate": ("list",), "few": ("list",),
    "closed": ("list",), "pins": ("list", "number"), "decide": ("list", "fact"), "true": ("list", "number", "fact"),
    "shapenth": ("list", "number", "number"), "shapeplace": ("list", "order")}
SHORT = ("name", "list", "number")


def is_name(told):
    """Tell whether something is a name of a list."""
    return isinstance(told, str) and 1 <= len(told) <= LONGEST_NAME and all([sign in LETTERS for sign in told])


def asked_in(text):
    """Return (word, tuple of what stands behind it, read) of a text to a console, or None if it is none."""
    word, space, rest = text.partition(" ")
    if word not in FORMS:
        return None
    found = []
    for sort in FORMS[word]:
        if space == "":
            return None
        if sort in SHORT:
            piece, space, rest = rest.partition(" ")
        else:
            piece, space = rest, ""
        found.append(piece_read(sort, piece))
    return None if space != "" or None in found else (word, tuple(found))


def piece_read(sort, piece):
    """Return what a piece of text of a sort tells, or None."""
    if sort == "name" or sort == "list":
        return piece if is_name(piece) else None
    if sort == "number":
        return integer_in(piece)
    if sort == "patterns":
        return list_in(piece)
    if sort == "order":
        return order_in(piece)
    return saying_in(piece) if sort == "saying" else fact_in(piece)


class Console:
    """Named lists, and all changes of them that can be taken back."""

    def __init__(self):
        self._lists = {}
        self._changes = []

    def keep(self, name, forbidden):
        """Keep a list under a name."""
        if not is_name(name):
            raise InvalidName(name)
        check_list(forbidden)
        self._changes.append((name, self._lists.get(name)))
        self._lists[name] = forbidden

    def drop(self, name):
        """Drop the list that has a name."""
        self._changes.append((name, self.forbidden(name)))
        del self._lists[name]

    def undo(self):
        """Take back the last change that is not taken back."""
        if not self._changes:
            raise NothingToUndo(0)
        name, before = self._changes.pop()
        if before is None:
            del self._lists[name]
        else:
            self._lists[name] = before

    def forbidden(self, name):
        """Return the list that has a name."""
        if not is_name(name) or name not in self._lists:
            raise UnknownName(name)
        return self._lists[name]

    def names(self):
        """Return the ascending list of the names."""
        return sorted(self._lists)

    def order(self, text):
        """Do what a text says, and return the answer."""
        asked = asked_in(text)
        if asked is None:
            raise Unorderly(text)
        word, told = asked
        if word == "names":
            return in_lines(self.names())
        if word == "undo":
            self.undo()
            return DONE
        if word == "drop":
            self.drop(told[0])
            return DONE
        known = [self.forbidden(piece) if sort == "list" else piece for sort, piece in zip(FORMS[word], told)]
        if word in TOLD:
            action = TOLD[word]
            return action(*known)
        action = KEPT[word]
        rest = known[1:]
        self.keep(told[0], action(*rest))
        return DONE
