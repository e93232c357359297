"""The interface: which names stand in which file, and how their parameters are called."""

import importlib
import inspect
import unittest

from allcoursesfit.benches import Bench
from allcoursesfit.books import is_motion, is_world
from allcoursesfit.motions import ahead, behind, between, joined, motion_text, pushes, read_motion, start
from allcoursesfit.points import ascending, form, halfway, point_text, read_point
from allcoursesfit.readings import fulfils, read_reading, reading_text, sources
from allcoursesfit.shapes import (area, both, clipped, ends, hull, read_shape, shape_text, sheared, stretched, where)
from tests.wrong import SOME, SQUARE, points
from tests.wrong_books import EXACT, FLAT, RULE, SLOW, TWO

PARAMETERS = {
    "allcoursesfit.points": {
        "ascending": "points", "form": "point p q", "halfway": "one other", "point_text": "point",
        "read_point": "text"},
    "allcoursesfit.shapes": {
        "area": "shape", "both": "one other", "clipped": "shape p q low high", "ends": "shape p q", "hull": "points",
        "read_shape": "text", "shape_text": "shape", "sheared": "shape by", "stretched": "shape low high",
        "where": "shape point"},
    "allcoursesfit.motions": {
        "ahead": "rule shape", "behind": "rule shape", "between": "rules one other part", "joined": "rules one other",
        "motion_text": "rules motion", "pushes": "rules motion", "read_motion": "rules text", "start": "rule"},
    "allcoursesfit.readings": {
        "fulfils": "reading states", "read_reading": "text", "reading_text": "reading", "sources": "readings"},
    "allcoursesfit.books": {
        "is_motion": "book value", "is_world": "book value", "more": "book reading", "read_book": "text",
        "without": "book number"},
    "allcoursesfit.lots": {
        "choices": "book", "fits": "book tick", "has": "book tick state", "is_empty": "book",
        "lot": "book choice axis tick", "on_from": "book choice axis tick", "up_to": "book choice axis tick"},
    "allcoursesfit.worlds": {
        "any_world": "book", "barred": "book motion", "shows_any_world": "book value",
        "shows_world_through": "book marks value", "shows_world_with": "book tick state value",
        "told_by": "book motion", "world_through": "book marks", "world_with": "book tick state"},
    "allcoursesfit.sums": {"rows": "book tick state axis", "summed": "book tick state axis value"},
    "allcoursesfit.trees": {"refuted": "book tick state right", "shows_refuted": "book tick state right value"},
    "allcoursesfit.sure": {
        "barred_world": "book number", "kept_world": "book number", "right_world": "book source",
        "shows_barred_world": "book number value", "shows_kept_world": "book number value",
        "shows_right_world": "book source value", "shows_wrong_world": "book source value", "surely_right": "book",
        "surely_wrong": "book", "word_at": "book number", "word_of": "book source", "wrong_world": "book source"},
    "allcoursesfit.bounds": {
        "bounds": "book form", "can_be": "book ask", "can_be_in": "book tick area", "first_sure": "book ask",
        "middle": "book form", "shows_bounds": "book form value", "surely": "book ask", "surely_in": "book tick area"},
    "allcoursesfit.asks": {
        "answers": "book ask form", "best_asks": "book asks form", "least_left": "book asks form depth",
        "plan": "book asks form depth", "shows_plan": "book asks form depth value", "worth": "book asks form plan"},
    "allcoursesfit.pictures": {"course": "book axis places", "picture": "book axis tick places speeds"},
    "allcoursesfit.journals": {"journal": "bench", "read_journal": "text"},
}

CLASSES = {
    "allcoursesfit.books": {"Book": "rules last readings wrong"},
    "allcoursesfit.keeping": {"Tracker": "rules last wrong"},
    "allcoursesfit.benches": {"Bench": "rules last wrong"},
    "allcoursesfit.desk": {"Desk": "text"},
}

# For each class its methods, with their parameters, and the attributes that are set on each object.
METHODS = {
    "Book": {"__eq__": "other"},
    "Tracker": {"put": "reading", "take": "number", "later": "", "fits": "tick", "has": "tick state", "copy": "",
                "__eq__": "other"},
    "Bench": {"do": "line", "undo": "", "redo": "", "tried": "look keep", "keep": "", "copy": "", "__len__": "",
              "__eq__": "other"},
    "Desk": {"say": "line"},
}
ATTRIBUTES = {"Book": "rules last readings wrong sources text", "Tracker": "book numbers work",
              "Bench": "rules last deeds book", "Desk": "bench"}
CREATED = {"Book": ((RULE,), 2, (EXACT,), 1), "Tracker": ((RULE,), 2, 1), "Bench": ((RULE,), 2, 1),
           "Desk": ("rule 0 1 0 0 0 0\nlast 0\nwrong 0\ndeeds",)}


class Interface(unittest.TestCase):
    def test_names_parameters_and_files(self):
        for module, functions in PARAMETERS.items():
            for name, words in functions.items():
                function = getattr(importlib.import_module(module), name)
                self.assertTrue(inspect.isfunction(function), name)
                self.assertEqual((function.__module__, function.__name__), (module, name))
                told = inspect.signature(function).parameters.values()
                self.assertEqual([one.name for one in told], words.split(), name)
                self.assertEqual({one.kind for one in told}, {inspect.Parameter.POSITIONAL_OR_KEYWORD}, name)
                self.assertEqual({one.default for one in told}, {inspect.Parameter.empty}, name)

    def test_classes(self):
        for module, classes in CLASSES.items():
            for name, words in classes.items():
                kind = getattr(importlib.import_module(module), name)
                self.assertTrue(inspect.isclass(kind), name)
                self.assertEqual((kind.__module__, kind.__name__, kind.__bases__), (module, name, (object,)))
                self.assertEqual(list(inspect.signature(kind).parameters), words.split())

    def test_methods_and_attributes(self):
        for module, classes in CLASSES.items():
            for name in classes:
                kind = getattr(importlib.import_module(module), name)
                for method, words in METHODS[name].items():
                    self.assertTrue(inspect.isfunction(vars(kind)[method]), (name, method))
                    told = list(inspect.signature(vars(kind)[method]).parameters.values())[1:]
                    self.assertEqual([one.name for one in told], words.split(), (name, method))
                for attribute in ATTRIBUTES[name].split():
                    self.assertIn(attribute, vars(kind(*CREATED[name])), (name, attribute))

    def test_keep_is_passed_by_name(self):
        told = inspect.signature(Bench.tried).parameters["keep"]
        self.assertEqual((told.kind, told.default), (inspect.Parameter.KEYWORD_ONLY, False))

    def test_motions_and_readings_by_name(self):
        self.assertEqual(start(rule=FLAT), points((3, 0)))
        self.assertEqual(ahead(shape=points((4, 1)), rule=RULE), points((5, 0), (5, 2)))
        self.assertEqual(behind(shape=points((4, 1)), rule=RULE), points((2, 2), (4, 0)))
        self.assertEqual(between(part=(0, 1), other=SLOW, one=SLOW, rules=(RULE,)), SLOW)
        self.assertEqual(joined(other=SLOW, one=SLOW[:1], rules=(RULE,)), SLOW)
        self.assertEqual(pushes(motion=SLOW, rules=(RULE,)), (((1, 1), (0, 1)),))
        self.assertEqual(read_motion(text="4 0\n4 1\n5 1", rules=(RULE,)), SLOW)
        self.assertEqual(motion_text(motion=SLOW, rules=(RULE,)), "4 0\n4 1\n5 1")
        self.assertEqual(read_reading(text="ear 0 1 2 -1 -3..3"), EXACT)
        self.assertEqual(reading_text(reading=EXACT), "ear 0 1 2 -1 -3..3")
        self.assertIs(fulfils(states=SLOW, reading=EXACT), False)
        self.assertEqual(sources(readings=(EXACT,)), ("ear",))
        self.assertIs(is_motion(value=SLOW, book=TWO), False)
        self.assertIs(is_world(value=(SLOW, ()), book=TWO), False)

    def test_arguments_by_name(self):
        self.assertEqual(point_text(point=SOME), "1/2 -3")
        self.assertEqual(read_point(text="1/2 -3"), SOME)
        self.assertEqual(form(q=1, p=2, point=SOME), (-2, 1))
        self.assertEqual(ascending(points=(SOME, SOME)), (SOME,))
        self.assertEqual(halfway(other=((0, 1), (1, 1)), one=SOME), ((1, 4), (-1, 1)))
        self.assertEqual(hull(points=SQUARE[::-1]), SQUARE)
        self.assertEqual(clipped(high=1, low=1, q=0, p=1, shape=SQUARE), points((1, 0), (1, 2)))
        self.assertEqual(sheared(by=1, shape=SQUARE[:1]), SQUARE[:1])
        self.assertEqual(stretched(high=2, low=0, shape=SQUARE[:2]), SQUARE)
        self.assertEqual(both(other=SQUARE[:2], one=SQUARE), SQUARE[:2])
        self.assertEqual(where(point=SOME, shape=SQUARE), -1)
        self.assertEqual(ends(q=0, p=1, shape=SQUARE[:1]), (((0, 1), SQUARE[0]), ((0, 1), SQUARE[0])))
        self.assertEqual(area(shape=SQUARE), (4, 1))
        self.assertEqual(shape_text(shape=SQUARE[:1]), "0 0")
        self.assertEqual(read_shape(text="0 0"), SQUARE[:1])


if __name__ == "__main__":
    unittest.main()
