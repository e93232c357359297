"""Section 6: MOTIONS, and the SHAPES to which they come."""

import random
import unittest
from fractions import Fraction

from allcoursesfit.errors import Apart, BadLast, BadLine, BadMotion, BadPart, BadRule, BadRules, BadShape
from allcoursesfit.motions import ahead, behind, between, joined, motion_text, pushes, read_motion, start
from allcoursesfit.points import point_text
from tests.courses import drawn_motion, meets_along, strictly_motion
from tests.model import fraction, lies_in, pair, point, strictly_shape
from tests.wrong import NOT_FRACTIONS, NOT_POINT_TEXTS, NOT_SHAPES, NOT_TEXTS, SQUARE, Refusals, nested, points
from tests.wrong_books import (FLAT, NOT_MOTIONS, NOT_RULE, NOT_RULES, NOT_STATES_OF_TWO, RULE, SLOW, run)

SMALL_RULES = (
    (0, 3, -1, 2, -1, 1), (0, 3, -1, 2, 0, 0), (-1, 2, 1, 2, -1, 0), (-2, 2, -2, -1, 0, 1), (1, 1, -1, 1, -1, 1),
    (0, 3, 1, 1, -1, 1), (0, 2, 0, 0, 0, 0), (2, 2, 0, 0, 0, 0), (1, 1, 2, 2, -1, 1), (0, 3, -1, 2, 1, 2),
    (0, 3, -1, 2, -3, -2), (0, 3, -1, 2, 5, 7), (-3, 0, 1, 3, -2, -1), (0, 1, 3, 4, 0, 1),
)
SHAPES = (
    (), points((1, 1)), points((0, 0)), points((3, 2)), points((9, 9)), (point(Fraction(1, 2), Fraction(1, 3)),),
    points((0, 0), (2, 2)), points((0, 1), (3, 1)), points((1, -1), (1, 2)), points((-4, 1), (7, 1)),
    (point(Fraction(-1, 2), Fraction(5, 2)), point(Fraction(7, 2), Fraction(-3, 2))), SQUARE,
    points((-9, -9), (9, -9), (9, 9), (-9, 9)), points((3, 2), (5, 2), (5, 4)), points((5, 0), (7, 0), (6, 1)),
    (point(Fraction(-1, 3), 0), point(2, Fraction(-3, 2)), point(Fraction(7, 2), 1), point(1, Fraction(5, 2))),
)
GRID = [(Fraction(place, 2), Fraction(speed, 2)) for place in range(-8, 11) for speed in range(-7, 10)]


def in_box(rule, spot):
    return rule[0] <= spot[0] <= rule[1] and rule[2] <= spot[1] <= rule[3]


def come_to(rule, shape, spot):
    """Whether a MOTION comes to spot in one tick from a pair that lies in shape and in the box."""
    low = max(rule[2], spot[1] - rule[5], spot[0] - rule[1])
    high = min(rule[3], spot[1] - rule[4], spot[0] - rule[0])
    return in_box(rule, spot) and low <= high and meets_along(shape, (spot[0], Fraction(0)), (-1, 1), low, high)


def come_from(rule, shape, spot):
    """Whether a MOTION comes from spot in one tick to a pair that lies in shape and in the box."""
    place, speed = spot[0] + spot[1], spot[1]
    low, high = max(rule[2], speed + rule[4]), min(rule[3], speed + rule[5])
    if not in_box(rule, spot) or not rule[0] <= place <= rule[1] or low > high:
        return False
    return meets_along(shape, (place, Fraction(0)), (0, 1), low, high)


class Axis(unittest.TestCase):
    def test_start(self):
        self.assertEqual(start((0, 2, 0, 2, 5, 5)), SQUARE)
        self.assertEqual(start((3, 3, -1, 4, 0, 0)), points((3, -1), (3, 4)))
        self.assertEqual(start((-3, 5, 2, 2, 0, 0)), points((-3, 2), (5, 2)))
        self.assertEqual(start(FLAT), points((3, 0)))
        self.assertEqual(start((-1000, 1000, -1000, 1000, -1000, 1000)),
                         points((-1000, -1000), (1000, -1000), (1000, 1000), (-1000, 1000)))

    def look(self, rule, shape, told, model):
        self.assertTrue(strictly_shape(told), (rule, shape, told))
        for spot in GRID + [pair(corner) for corner in told]:
            self.assertEqual(lies_in(told, spot), model(rule, shape, spot), (rule, shape, spot))

    def test_ahead_against_each_point(self):
        for rule in SMALL_RULES:
            for shape in SHAPES:
                self.look(rule, shape, ahead(rule, shape), come_to)

    def test_behind_against_each_point(self):
        for rule in SMALL_RULES:
            for shape in SHAPES:
                self.look(rule, shape, behind(rule, shape), come_from)

    def test_against_one_another(self):
        for rule in SMALL_RULES:
            for here in SHAPES[1:6]:
                for there in SHAPES[1:6]:
                    self.assertEqual(lies_in(ahead(rule, here), pair(there[0])) and in_box(rule, pair(here[0])),
                                     lies_in(behind(rule, there), pair(here[0])) and in_box(rule, pair(there[0])))

    def test_drawn_motions_are_followed(self):
        R = random.Random(61)
        for rule in SMALL_RULES[:6] + SMALL_RULES[8:9]:
            if rule == (1, 1, 2, 2, -1, 1):
                continue
            for _ in range(20):
                motion = drawn_motion(R, (rule,), 1, 6)
                self.assertTrue(lies_in(ahead(rule, motion[0]), pair(motion[1][0])))
                self.assertTrue(lies_in(behind(rule, motion[1]), pair(motion[0][0])))

    def test_some(self):
        self.assertEqual(ahead(RULE, points((4, 1))), points((5, 0), (5, 2)))
        self.assertEqual(ahead(RULE, points((4, 2))), points((6, 1), (6, 2)))
        self.assertEqual(ahead(RULE, points((10, 1))), ())
        self.assertEqual(ahead(RULE, points((11, -2))), ())
        self.assertEqual(ahead(RULE, points((10, 0))), points((10, -1), (10, 1)))
        self.assertEqual(behind(RULE, points((4, 1))), points((2, 2), (4, 0)))
        self.assertEqual(behind(RULE, points((12, 2))), ())
        self.assertEqual(ahead(FLAT, points((3, 0))), points((3, 0)))
        self.assertEqual(behind(FLAT, start(RULE)), points((3, 0)))
        self.assertEqual(ahead((0, 9, 0, 9, 2, 3), points((0, 0), (2, 0))), points((0, 2), (2, 2), (2, 3), (0, 3)))

    def test_great_numbers(self):
        great = 3 ** 4000
        shape = (((1, great), (1, 1)),)
        self.assertEqual(ahead(RULE, shape), (((great + 1, great), (0, 1)), ((great + 1, great), (2, 1))))
        self.assertEqual(behind(RULE, (((1, great), (2, 1)),)), ())
        self.assertEqual(behind(RULE, (((1, great), (-2, 1)),)),
                         (((great + 1, great), (-1, 1)), ((2 * great + 1, great), (-2, 1))))


class Motions(Refusals):
    def some_motions(self):
        R = random.Random(62)
        for rules in ((RULE,), (FLAT,), (RULE, FLAT), (RULE, (0, 3, -1, 2, 0, 0), (-9, 9, -3, 3, -2, 1))):
            for last in (0, 1, 2, 5):
                for _ in range(4):
                    yield rules, drawn_motion(R, rules, last, 6)
        yield (FLAT, FLAT, FLAT), drawn_motion(R, (FLAT, FLAT, FLAT), 12)
        wide = (-90, 90, -3, 3, -1, 1)
        yield (wide, wide), drawn_motion(R, (wide, wide), 12)

    def test_pushes(self):
        for rules, motion in self.some_motions():
            told = pushes(rules, motion)
            self.assertIs(type(told), tuple)
            self.assertEqual(len(told), len(rules))
            for axis, row in enumerate(told):
                speeds = [pair(state[axis])[1] for state in motion]
                self.assertEqual(row, tuple([fraction(far - near) for near, far in zip(speeds, speeds[1:])]))
        self.assertEqual(pushes((RULE,), run((4, 0))), ((),))
        self.assertEqual(pushes((RULE, RULE), (points((1, 1), (2, 0)),)), ((), ()))
        self.assertEqual(pushes((RULE,), SLOW), (((1, 1), (0, 1)),))

    def test_joined(self):
        for rules, motion in self.some_motions():
            for at in range(len(motion)):
                self.assertEqual(joined(rules, motion[:at + 1], motion[at:]), motion)

    def test_joined_to_at_most_twelve(self):
        for one in range(1, 14):
            for other in range(1, 14):
                motions = (run(*[(4, 0)] * one), run(*[(4, 0)] * other))
                if one + other <= 14:
                    self.assertEqual(joined((RULE,), *motions), run(*[(4, 0)] * (one + other - 1)))
                else:
                    error = self.refusal(joined, (RULE,), *motions)
                    self.assertIs(type(error), BadLast)
                    self.assertEqual(error.value, one + other - 2)

    def test_apart(self):
        for other in (run((4, 1)), run((5, 0)), run((4, 0), (4, 1)), run((5, 0), (5, 1), (6, 1)), SLOW):
            self.refused(Apart, None, joined, (RULE,), SLOW, other)
        self.refused(Apart, None, joined, (RULE,), run(*[(4, 0)] * 13), run(*[(5, 0)] * 13))
        self.refused(Apart, None, joined, (RULE, RULE), (points((1, 1), (2, 0)),), (points((1, 1), (2, 1)),))
        self.refused(Apart, None, joined, (RULE, RULE), (points((1, 1), (2, 0)),), (points((2, 0), (1, 1)),))
        for other in (run((4, 1)), run((4, 0), (4, 0)), run(*[(4, 0)] * 13)):
            self.refused(Apart, None, between, (RULE,), SLOW, other, (1, 2))
            self.refused(Apart, None, between, (RULE,), other, SLOW, (1, 2))

    def test_between(self):
        R = random.Random(63)
        for rules, motion in self.some_motions():
            other = drawn_motion(R, rules, len(motion) - 1, 3)
            self.assertEqual(between(rules, motion, other, (0, 1)), motion)
            self.assertEqual(between(rules, motion, other, (1, 1)), other)
            for part in ((1, 2), (1, 3), (5, 7), (999999998, 999999999)):
                told = between(rules, motion, other, part)
                self.assertTrue(strictly_motion(rules, told, len(motion) - 1))
                for here, there, mixed in zip(motion, other, told):
                    for near, far, spot in zip(here, there, mixed):
                        for one, two, number in zip(pair(near), pair(far), pair(spot)):
                            self.assertEqual(number, one + Fraction(*part) * (two - one))

    def test_texts_there_and_back(self):
        for rules, motion in self.some_motions():
            text = motion_text(rules, motion)
            lines = [" ; ".join([point_text(spot) for spot in state]) for state in motion]
            self.assertEqual(text, "\n".join(lines))
            self.assertEqual(read_motion(rules, text), motion)
            self.assertIs(type(read_motion(rules, text)), tuple)

    def bad_line(self, number, rules, text):
        error = self.refusal(read_motion, rules, text)
        self.assertIs(type(error), BadLine)
        self.assertIs(type(error.value), int)
        self.assertEqual(error.value, number, text)

    def test_first_line_that_cannot_stand(self):
        for rules, motion in self.some_motions():
            lines = motion_text(rules, motion).split("\n")
            for at, line in enumerate(lines):
                for bent in ("", line + " ", " " + line, line + " ; 0 0", line + ";", "x", line.replace(" ", "  ", 1),
                             "2000 0" + line[line.index(" "):], line.replace(" ", "\t", 1)):
                    self.bad_line(at + 1, rules, "\n".join(lines[:at] + [bent] + lines[at + 1:]))
                self.bad_line(at + 1, rules, "\n".join(lines[:at] + ["", ""]))
            self.bad_line(len(lines) + 1, rules, "\n".join(lines) + "\n")
            self.bad_line(1, rules, "\n" + "\n".join(lines))

    def test_lines_that_do_not_follow(self):
        good = ["4 1", "5 3/2", "13/2 1/2"]
        for number, bent in ((2, "6 1"), (2, "5 3"), (2, "5 5/2"), (2, "5 -1/3"), (2, "4 1"), (3, "13/2 1/3"),
                             (3, "13/2 5/2"), (3, "6 1/2"), (1, "11 0"), (1, "-1 0"), (1, "4 5/2"), (1, "4 -5/2"),
                             (1, "4 1 ; 4 1"), (1, "4"), (1, "8/2 1"), (1, "4 1 "), (2, "5 1;")):
            self.bad_line(number, (RULE,), "\n".join(good[:number - 1] + [bent] + good[number:]))
        self.bad_line(2, (RULE, FLAT), "4 1 ; 3 0\n5 1 ; 3 1")
        self.bad_line(2, (RULE, FLAT), "4 1 ; 3 0\n6 1 ; 3 0")
        self.bad_line(2, (RULE, FLAT), "4 1 ; 3 0\n5 1")
        self.bad_line(1, (RULE, FLAT), "4 1; 3 0")
        self.bad_line(1, (RULE, FLAT), "4 1 ;3 0")
        self.bad_line(1, (RULE, FLAT), "4 1")
        self.bad_line(1, (RULE, FLAT), "3 0 ; 4 1")

    def test_thirteen_lines(self):
        lines = ["4 0"] * 13
        self.assertEqual(len(read_motion((RULE,), "\n".join(lines))), 13)
        self.bad_line(14, (RULE,), "\n".join(lines + ["4 0"]))
        self.bad_line(14, (RULE,), "\n".join(lines + ["4 0"] * 9))
        self.bad_line(14, (RULE,), "\n".join(lines + ["x"]))
        self.bad_line(7, (RULE,), "\n".join(lines[:6] + ["x"] + lines))

    def test_each_sign_bent(self):
        for rules, text in (((RULE,), "4 1\n5 3/2\n13/2 1/2"), ((RULE, FLAT), "1/3 -1/4 ; 3 0\n1/12 -1/4 ; 3 0")):
            for at in range(len(text)):
                for sign in ("", " ", "x", "\n", "0", "1", "-", "/", ";", "."):
                    for bent in (text[:at] + sign + text[at:], text[:at] + sign + text[at + 1:]):
                        line = bent[:at].count("\n") + 1
                        try:
                            told = read_motion(rules, bent)
                        except BadLine as error:
                            # A line that can stand by itself can be one that the next one doesn't follow.
                            self.assertIn(error.value, (line, line + 1), bent)
                        else:
                            self.assertTrue(strictly_motion(rules, told), bent)
                            self.assertEqual(motion_text(rules, told), bent)

    def test_bent_points(self):
        for text in NOT_POINT_TEXTS:
            self.bad_line(1, (RULE,), text.replace("\n", "\t"))
            self.bad_line(2, (RULE,), "0 0\n" + text.replace("\n", "\t"))
        self.bad_line(1, (RULE,), "")

    def test_great_numbers(self):
        great = 7 ** 6000
        motion = ((((great + 1, great), (0, 1)),), (((great + 1, great), (1, great)),))
        told = between((RULE,), motion, run((4, 0), (4, 0)), (great - 1, great))
        self.assertTrue(strictly_motion((RULE,), told))
        self.assertEqual(read_motion((RULE,), motion_text((RULE,), told)), told)
        self.assertEqual(pushes((RULE,), motion), (((1, great),),))


class Wrong(Refusals):
    def test_rule(self):
        for wrong in NOT_RULE:
            self.refused(BadRule, wrong, start, wrong)
            for shape in ((), SQUARE, None, SQUARE[::-1]):
                self.refused(BadRule, wrong, ahead, wrong, shape)
                self.refused(BadRule, wrong, behind, wrong, shape)

    def test_shape(self):
        for wrong in NOT_SHAPES:
            self.refused(BadShape, wrong, ahead, RULE, wrong)
            self.refused(BadShape, wrong, behind, FLAT, wrong)

    def test_rules(self):
        for wrong in NOT_RULES:
            for value in (SLOW, None):
                self.refused(BadRules, wrong, pushes, wrong, value)
                self.refused(BadRules, wrong, joined, wrong, value, value)
                self.refused(BadRules, wrong, between, wrong, value, value, value)
                self.refused(BadRules, wrong, motion_text, wrong, value)
                self.refused(BadRules, wrong, read_motion, wrong, value)
            self.refused(BadRules, wrong, read_motion, wrong, "4 0")

    def test_motion(self):
        for wrong in NOT_MOTIONS:
            self.assertFalse(strictly_motion((RULE,), wrong), wrong)
            self.refused(BadMotion, wrong, pushes, (RULE,), wrong)
            self.refused(BadMotion, wrong, motion_text, (RULE,), wrong)
            for value in (SLOW, run((5, 1))):
                self.refused(BadMotion, wrong, joined, (RULE,), wrong, value)
                self.refused(BadMotion, wrong, joined, (RULE,), value, wrong)
                self.refused(BadMotion, wrong, between, (RULE,), wrong, value, None)
                self.refused(BadMotion, wrong, between, (RULE,), value, wrong, None)
        for one, other in zip(NOT_MOTIONS, NOT_MOTIONS[::-1]):
            self.refused(BadMotion, one, joined, (RULE,), one, other)
            self.refused(BadMotion, one, between, (RULE,), one, other, 2)

    def test_motion_of_two_axes(self):
        for wrong in NOT_STATES_OF_TWO:
            motion = (wrong,)
            self.refused(BadMotion, motion, pushes, (RULE, RULE), motion)
        self.refused(BadMotion, SLOW, pushes, (RULE, RULE), SLOW)
        here = (points((4, 0), (3, 0)),)
        self.refused(BadMotion, here, pushes, (RULE,), here)
        self.refused(BadMotion, here, pushes, (FLAT, RULE), here)
        self.assertEqual(pushes((RULE, FLAT), here), ((), ()))

    def test_part(self):
        for wrong in NOT_FRACTIONS + ((-1, 1), (2, 1), (-1, 10 ** 9), (10 ** 9 + 1, 10 ** 9), (3, 2)):
            self.refused(BadPart, wrong, between, (RULE,), SLOW, SLOW, wrong)
            self.refused(Apart, None, between, (RULE,), SLOW, run((4, 0)), wrong)

    def test_text(self):
        for wrong in NOT_TEXTS + (nested(list), nested(dict)):
            error = self.refusal(read_motion, (RULE,), wrong)
            self.assertIs(type(error), BadLine)
            self.assertIs(type(error.value), int)
            self.assertEqual(error.value, 0)


if __name__ == "__main__":
    unittest.main()
