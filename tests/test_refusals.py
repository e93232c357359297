"""Sections 6 to 16: every parameter wrong, by position and by name, alone and with those behind it."""

import importlib
import unittest

from allcoursesfit import errors
from allcoursesfit.benches import Bench
from allcoursesfit.books import Book
from allcoursesfit.desk import Desk
from allcoursesfit.errors import FitError
from allcoursesfit.journals import read_journal
from allcoursesfit.keeping import Tracker
from tests.test_interface import PARAMETERS
from tests.wrong import SQUARE, Refusals, nested, points
from tests.wrong_books import EXACT, RULE, SLOW, exact, unsure

BOOK = Book((RULE,), 2, (exact("a"), unsure("b", 0, 2)), 1)
CHOICE = (("a",), (None, 1))
STATE = points((4, 0))

# For each parameter: a value that is right, and the error that is named for what is not.
TOLD = {
    "rule": (RULE, "BadRule"), "rules": ((RULE,), "BadRules"), "shape": (SQUARE, "BadShape"),
    "motion": (SLOW, "BadMotion"),
    "one": (SLOW[:1], "BadMotion"), "other": (SLOW[:1], "BadMotion"), "part": ((1, 2), "BadPart"),
    "last": (2, "BadLast"),
    "reading": (EXACT, "BadReading"), "readings": ((EXACT,), "BadReadings"), "wrong": (1, "BadWrong"),
    "states": (SLOW, "BadStates"), "book": (BOOK, "NoBook"), "number": (0, "NoReading"),
    "choice": (CHOICE, "BadChoice"),
    "axis": (0, "BadAxis"), "tick": (1, "BadTick"), "state": (STATE, "BadState"), "marks": (((1, STATE),), "BadMarks"),
    "right": (("a",), "BadSources"),
    "source": ("b", "NoSource"), "form": ((0, 2, 1, 0), "BadForm"), "ask": ((0, 2, 1, 0, (1, 2)), "BadAsk"),
    "area": ((SQUARE,), "BadArea"), "asks": (((0, 2, 1, 0, (1, 2)),), "BadAsks"), "depth": (2, "BadNumber"),
    "plan": ((0, None, None), "BadPlan"), "places": ((-1, 3), "BadBounds"), "speeds": ((0, 0), "BadBounds"),
}
# What stands for None, too, and where the number of a READING is refused by another error.
NONE_IS_RIGHT = ("plan",)
NUMBERS = ("kept_world", "barred_world", "word_at", "shows_kept_world", "shows_barred_world")
# Right for no parameter at all.
EVER_WRONG = (True, False, -1, 99, [], [1], {}, {"a": [1]}, (None,), ((),), ("x",), (True, 1), [(0, 1)], FitError(1),
              nested(list), nested(tuple), nested(dict), [EXACT], list(SLOW), list(SQUARE), [RULE])
MODULES = ("motions", "readings", "books", "lots", "worlds", "sums", "trees", "sure", "bounds", "asks", "pictures")
TEXTS = {
    "read_motion": ("4 0", "BadLine"), "read_reading": ("ear 0 1 2 -1 -3..3", "BadReading"),
    "read_book": (BOOK.text, "BadBook"), "read_journal": ("rule 0 1 0 0 0 0\nlast 0\nwrong 0\ndeeds", "BadJournal"),
    "Desk": ("rule 0 1 0 0 0 0\nlast 0\nwrong 0\ndeeds", "BadJournal"),
}
# Whose errors tell the number of a line, 0 for what is no text.
BY_LINES = ("BadLine", "BadBook", "BadJournal")


def calls():
    """Each function, and the class, with the list of the names of its parameters."""
    for module in MODULES:
        for name, words in PARAMETERS["allcoursesfit." + module].items():
            yield name, getattr(importlib.import_module("allcoursesfit." + module), name), words.split()
    yield "Book", Book, ["rules", "last", "readings", "wrong"]
    yield "Tracker", Tracker, ["rules", "last", "wrong"]
    yield "Bench", Bench, ["rules", "last", "wrong"]
    yield "read_journal", read_journal, ["text"]
    yield "Desk", Desk, ["text"]


def told(name, words):
    """Values for all parameters that are right, and the names of the errors."""
    rights, kinds = {}, {}
    for word in words:
        if word in TOLD:
            rights[word], kinds[word] = TOLD[word]
    if name in NUMBERS:
        kinds["number"] = "BadNumber"
    if "value" in words:
        rights["value"] = None
        if name == "summed":
            rights["value"], kinds["value"] = (), "BadSum"
    if "text" in words:
        rights["text"], kinds["text"] = TEXTS[name]
    return rights, kinds


# For the methods: what they are called of, their parameters, each with a value that is right and with the error's name.
METHODS = (
    (lambda: Tracker((RULE,), 2, 0).put, (("reading", EXACT, "BadReading"),)),
    (lambda: Tracker((RULE,), 2, 0).take, (("number", None, "NoReading"),)),
    (lambda: Tracker((RULE,), 2, 0).fits, (("tick", 1, "BadTick"),)),
    (lambda: Tracker((RULE,), 2, 0).has, (("tick", 1, "BadTick"), ("state", STATE, "BadState"))),
    (lambda: Bench((RULE,), 2, 0).do, (("line", "wrong 1", "BadTask"),)),
    (lambda: Desk(TEXTS["Desk"][0]).say, (("line", "fits", "BadTask"),)),
)


class EveryMethod(Refusals):
    def test_one_wrong_and_those_behind_it(self):
        for method, told in METHODS:
            words = [word for word, right, kind in told]
            for at, (word, right, kind) in enumerate(told):
                for wrong in EVER_WRONG + (None, "x y", ""):
                    for behind in ([other for _, other, _ in told[at + 1:]], [{"a": [None]} for _ in told[at + 1:]]):
                        values = [other for _, other, _ in told[:at]] + [wrong] + behind
                        for call in (lambda: method()(*values), lambda: method()(**dict(zip(words, values)))):
                            error = self.refusal(call)
                            self.assertEqual(type(error).__name__, kind, (word, wrong))
                            self.assertIs(error.value, wrong)


class EveryParameter(Refusals):
    def look(self, kind, wrong, call, words, values):
        was = repr(values)
        expected = 0 if kind in BY_LINES else wrong
        for by_name in (False, True):
            with self.assertRaises(errors.FitError) as held:
                if by_name:
                    call(**{word: values[word] for word in reversed(words)})
                else:
                    call(*[values[word] for word in words])
            self.assertIs(type(held.exception), getattr(errors, kind), (call, values))
            self.assertIs(held.exception.value, expected, (call, values))
        self.assertEqual(repr(values), was)

    def test_right_values(self):
        for name, call, words in calls():
            rights, kinds = told(name, words)
            self.assertEqual(set(rights), set(words), name)
            one = call(*[rights[word] for word in words])
            if name != "Desk":
                self.assertEqual(one, call(**rights), name)
            self.assertNotIsInstance(one, (list, dict, set), name)
            if name.startswith(("is_", "shows_", "has", "fulfils", "surely_in", "can_be")):
                self.assertIs(type(one), bool, name)

    def wrong_values(self, name, word):
        """Values that are wrong for this parameter."""
        values = tuple([value for value in EVER_WRONG if (word, value) != ("area", ((),))])
        if word in NONE_IS_RIGHT:
            return values + ("x y", "")
        if name not in ("rows", "summed", "refuted", "shows_refuted") or word != "state":
            values = values + (None,)
        if name not in ("read_motion", "read_book", "read_journal", "Desk"):
            values = values + ("x y", "")
        return values

    def test_one_wrong_and_those_behind_it(self):
        for name, call, words in calls():
            rights, kinds = told(name, words)
            for at, word in enumerate(words):
                if word in kinds:
                    for wrong in self.wrong_values(name, word):
                        values = dict(rights)
                        values[word] = wrong
                        self.look(kinds[word], wrong, call, words, values)
                        for behind in words[at + 1:]:
                            values[behind] = {"a": [None]}
                        self.look(kinds[word], wrong, call, words, values)


if __name__ == "__main__":
    unittest.main()
