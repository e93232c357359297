"""Section 5: what is refused, with which error, and in which sequence."""

import unittest

from allcoursesfit.errors import BadBounds, BadNumber, BadPoint, BadPoints, BadShape, BadWeights
from allcoursesfit.shapes import area, both, clipped, ends, hull, read_shape, shape_text, sheared, stretched, where
from tests.model import pair, strictly_shape, turn
from tests.wrong import (NOT_INTEGERS, NOT_POINT_TUPLES, NOT_POINTS, NOT_SHAPE_TEXTS, NOT_SHAPES, NOT_TEXTS, SOME,
                         SQUARE, STAR, Refusals, nested, points)

RIGHT = ((), (SOME,), points((0, 0), (2, 2)), SQUARE)
NOT_BOUNDS = tuple([value for value in NOT_INTEGERS if value is not None])
NOT_BY = NOT_INTEGERS + (0, 2, -2, 3, 10 ** 40, (1, 1), (-1, 1))


class Shapes(Refusals):
    def test_the_samples_are_wrong(self):
        for wrong in NOT_SHAPES:
            self.assertFalse(strictly_shape(wrong), wrong)
        spots = [pair(corner) for corner in STAR]
        for at in range(5):
            self.assertGreater(turn(spots[at - 2], spots[at - 1], spots[at]), 0)

    def test_of_one_shape(self):
        for wrong in NOT_SHAPES:
            self.refused(BadShape, wrong, clipped, wrong, 1, 1, None, None)
            self.refused(BadShape, wrong, sheared, wrong, 1)
            self.refused(BadShape, wrong, stretched, wrong, 0, 1)
            self.refused(BadShape, wrong, where, wrong, SOME)
            self.refused(BadShape, wrong, ends, wrong, 1, 0)
            self.refused(BadShape, wrong, area, wrong)
            self.refused(BadShape, wrong, shape_text, wrong)

    def test_of_two_shapes(self):
        for wrong in NOT_SHAPES:
            for right in RIGHT:
                self.refused(BadShape, wrong, both, wrong, right)
                self.refused(BadShape, wrong, both, right, wrong)
        for one, other in zip(NOT_SHAPES, NOT_SHAPES[::-1]):
            self.refused(BadShape, one, both, one, other)

    def test_nothing_is_changed(self):
        for wrong in NOT_SHAPES:
            was = repr(wrong)
            for call in (area, shape_text):
                self.assertRaises(BadShape, call, wrong)
            self.assertEqual(repr(wrong), was)

    def test_great_numbers(self):
        great = 3 ** 10000
        for wrong in ((((great, 3), (0, 1)),), (((great, 1), (0, 1)), ((great - 1, 1), (0, 1))),
                      (((0, 1), (0, 1)), ((great, 1), (great, 1)), ((2 * great, 1), (2 * great, 1)))):
            self.refused(BadShape, wrong, area, wrong)


class Points(Refusals):
    def test_hull(self):
        for wrong in NOT_POINT_TUPLES:
            self.refused(BadPoints, wrong, hull, wrong)

    def test_hull_of_how_many(self):
        self.assertEqual(hull(SQUARE * 15), SQUARE)
        for many in (SQUARE * 15 + SQUARE[:1], (SOME,) * 61):
            self.refused(BadPoints, many, hull, many)

    def test_where(self):
        for wrong in NOT_POINTS:
            for right in RIGHT:
                self.refused(BadPoint, wrong, where, right, wrong)


class Numbers(Refusals):
    def test_weights(self):
        for right in RIGHT:
            for wrong in NOT_INTEGERS:
                for pair_of_them in ((wrong, 0), (wrong, 1), (0, wrong), (-9, wrong), (wrong, wrong)):
                    self.pair_refused(BadWeights, pair_of_them, clipped, right, *pair_of_them, 0, 1)
                    self.pair_refused(BadWeights, pair_of_them, ends, right, *pair_of_them)
            self.pair_refused(BadWeights, (0, 0), clipped, right, 0, 0, 0, 1)
            self.pair_refused(BadWeights, (0, 0), ends, right, 0, 0)

    def test_bounds(self):
        for right in RIGHT:
            for wrong in NOT_BOUNDS:
                for bounds in ((wrong, None), (None, wrong), (wrong, 5), (-5, wrong), (wrong, wrong)):
                    self.pair_refused(BadBounds, bounds, clipped, right, 1, 0, *bounds)
                    self.pair_refused(BadBounds, bounds, stretched, right, *bounds)
            for bounds in ((1, 0), (0, -1), (9999, -9999), (10 ** 8, 10 ** 8 - 1)):
                self.pair_refused(BadBounds, bounds, clipped, right, 1, 0, *bounds)
                self.pair_refused(BadBounds, bounds, stretched, right, *bounds)

    def test_none_is_a_bound_for_clipped_alone(self):
        for right in RIGHT:
            for bounds in ((None, None), (None, 0), (0, None)):
                self.pair_refused(BadBounds, bounds, stretched, right, *bounds)
                self.assertTrue(strictly_shape(clipped(right, 1, 0, *bounds)))

    def test_by(self):
        for right in RIGHT:
            for wrong in NOT_BY:
                self.refused(BadNumber, wrong, sheared, right, wrong)


class Texts(Refusals):
    def test_wrong_texts(self):
        for wrong in NOT_SHAPE_TEXTS + NOT_TEXTS:
            self.refused(BadShape, wrong, read_shape, wrong)

    def test_each_sign_bent(self):
        for text in ("", "1/2 -3", "0 0; 2 0; 2 2; 0 2", "-1/2 0; 5 -1/3"):
            for at in range(len(text) + 1):
                for sign in " -+/0;\n,3":
                    self.read_just_if_told(text[:at] + sign + text[at:])
                    self.read_just_if_told(text[:at] + sign + text[at + 1:])
                self.read_just_if_told(text[:at] + text[at + 1:])

    def read_just_if_told(self, text):
        """A text is read just if it is the very text of what comes of it."""
        try:
            told = read_shape(text)
        except BadShape as error:
            self.assertIs(error.value, text)
            return
        self.assertTrue(strictly_shape(told))
        self.assertEqual("; ".join([f"{place} {speed}" for place, speed in [pair(corner) for corner in told]]), text)


class Sequence(Refusals):
    """If several errors apply, that of the first parameter is raised."""

    def test_shape_first(self):
        wrong = nested(list)
        for told in ((0, 0, 2, 1), (True, 1, None, None), (None, None, True, [])):
            self.refused(BadShape, wrong, clipped, wrong, *told)
        self.refused(BadShape, wrong, sheared, wrong, True)
        self.refused(BadShape, wrong, stretched, wrong, 2, 1)
        self.refused(BadShape, wrong, where, wrong, (1, 2))
        self.refused(BadShape, wrong, ends, wrong, 0, 0)

    def test_weights_ahead_of_bounds(self):
        self.pair_refused(BadWeights, (0, 0), clipped, SQUARE, 0, 0, 2, 1)
        self.pair_refused(BadWeights, (True, 1), clipped, SQUARE, True, 1, "2", False)
        self.pair_refused(BadWeights, (1, None), clipped, (), 1, None, [], None)


if __name__ == "__main__":
    unittest.main()
