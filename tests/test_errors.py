"""Section 17: the errors."""

import copy
import unittest

from allcoursesfit import errors
from allcoursesfit.errors import FitError
from tests.wrong import NOT_SHAPES, nested

NAMES = """BadPoint BadNumber BadForm BadShape BadRules BadLast BadTick BadAxis BadState BadMotion BadReading
BadReadings BadWrong BadBook NoBook NoSource BadAsks NoReading NothingToUndo NothingToRedo NoBlock BadJournal
BadTask BadMarks BadStates BadPoints BadBounds BadAsk Full BadArea BadPlan BadChoice BadRule Apart BadPart
BadLine NoTracker BadSum BadSources BadWeights""".split()


class Errors(unittest.TestCase):
    def test_all_names_are_there(self):
        self.assertEqual(len(NAMES), 40)
        for name in NAMES:
            kind = getattr(errors, name)
            self.assertIs(type(kind), type)
            self.assertEqual((kind.__name__, kind.__module__), (name, "allcoursesfit.errors"))

    def test_fit_error_is_a_value_error(self):
        self.assertEqual(FitError.__bases__, (ValueError,))
        self.assertEqual((FitError.__name__, FitError.__module__), ("FitError", "allcoursesfit.errors"))

    def test_all_others_are_directly_below_fit_error(self):
        for name in NAMES:
            self.assertEqual(getattr(errors, name).__bases__, (FitError,), name)

    def test_they_are_unlike(self):
        self.assertEqual(len({getattr(errors, name) for name in NAMES}), 40)

    def test_each_keeps_its_argument(self):
        values = NOT_SHAPES + (10 ** 6000, nested(list), FitError(FitError(2)), ((1, 2), (-3, 1)), "a\nb", 0, False)
        for name in ["FitError"] + NAMES:
            kind = getattr(errors, name)
            for value in values:
                self.assertIs(kind(value).value, value, name)

    def test_each_takes_one_argument(self):
        for name in ["FitError"] + NAMES:
            kind = getattr(errors, name)
            self.assertRaises(TypeError, kind)
            self.assertRaises(TypeError, kind, 1, 2)

    def test_each_is_raised_and_caught(self):
        for name in NAMES:
            kind = getattr(errors, name)
            value = [name]
            for caught in (kind, FitError, ValueError):
                with self.assertRaises(caught) as held:
                    raise kind(value)
                self.assertIs(type(held.exception), kind)
                self.assertIs(held.exception.value, value)
            self.assertEqual(copy.copy(kind(value)).value, value)


if __name__ == "__main__":
    unittest.main()
