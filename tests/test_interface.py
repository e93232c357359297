"""The interface: which names stand in which file, and how their parameters are called."""

import importlib
import inspect
import unittest

from allcoursesfit.points import ascending, form, halfway, point_text, read_point
from allcoursesfit.shapes import (area, both, clipped, ends, hull, read_shape, shape_text, sheared, stretched, where)
from tests.wrong import SOME, SQUARE, points

PARAMETERS = {
    "allcoursesfit.points": {
        "ascending": "points", "form": "point p q", "halfway": "one other", "point_text": "point",
        "read_point": "text"},
    "allcoursesfit.shapes": {
        "area": "shape", "both": "one other", "clipped": "shape p q low high", "ends": "shape p q", "hull": "points",
        "read_shape": "text", "shape_text": "shape", "sheared": "shape by", "stretched": "shape low high",
        "where": "shape point"},
}


class Interface(unittest.TestCase):
    def test_names_parameters_and_files(self):
        for module, functions in PARAMETERS.items():
            for name, words in functions.items():
                function = getattr(importlib.import_module(module), name)
                self.assertTrue(inspect.isfunction(function), name)
                self.assertEqual((function.__module__, function.__name__), (module, name))
                told = inspect.signature(function).parameters.values()
                self.assertEqual([one.name for one in told], words.split(), name)
                self.assertEqual({one.kind for one in told}, {inspect.Parameter.POSITIONAL_OR_KEYWORD}, name)
                self.assertEqual({one.default for one in told}, {inspect.Parameter.empty}, name)

    def test_arguments_by_name(self):
        self.assertEqual(point_text(point=SOME), "1/2 -3")
        self.assertEqual(read_point(text="1/2 -3"), SOME)
        self.assertEqual(form(q=1, p=2, point=SOME), (-2, 1))
        self.assertEqual(ascending(points=(SOME, SOME)), (SOME,))
        self.assertEqual(halfway(other=((0, 1), (1, 1)), one=SOME), ((1, 4), (-1, 1)))
        self.assertEqual(hull(points=SQUARE[::-1]), SQUARE)
        self.assertEqual(clipped(high=1, low=1, q=0, p=1, shape=SQUARE), points((1, 0), (1, 2)))
        self.assertEqual(sheared(by=1, shape=SQUARE[:1]), SQUARE[:1])
        self.assertEqual(stretched(high=2, low=0, shape=SQUARE[:2]), SQUARE)
        self.assertEqual(both(other=SQUARE[:2], one=SQUARE), SQUARE[:2])
        self.assertEqual(where(point=SOME, shape=SQUARE), -1)
        self.assertEqual(ends(q=0, p=1, shape=SQUARE[:1]), (((0, 1), SQUARE[0]), ((0, 1), SQUARE[0])))
        self.assertEqual(area(shape=SQUARE), (4, 1))
        self.assertEqual(shape_text(shape=SQUARE[:1]), "0 0")
        self.assertEqual(read_shape(text="0 0"), SQUARE[:1])


if __name__ == "__main__":
    unittest.main()
