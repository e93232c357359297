"""Section 4: points as texts, and what forms of them come to."""

import unittest
from fractions import Fraction

from allcoursesfit.errors import BadPoint, BadPoints, BadWeights
from allcoursesfit.points import ascending, form, halfway, point_text, read_point
from tests.model import fraction, pair, point
from tests.wrong import (NOT_INTEGERS, NOT_POINT_TEXTS, NOT_POINT_TUPLES, NOT_POINTS, NOT_TEXTS, SOME, Refusals,
                         nested, points)

NUMBERS = tuple([Fraction(top, bottom) for top in range(-4, 5) for bottom in (1, 2, 3, 7)]) + (
    Fraction(10 ** 9 - 1), Fraction(1 - 10 ** 9, 999999998), Fraction(10), Fraction(-100, 101), Fraction(1, 10))
POINTS = tuple([point(place, speed) for place in NUMBERS[::3] for speed in NUMBERS[::2]])


class Texts(Refusals):
    def test_texts(self):
        for text, told in (
                ("0 0", ((0, 1), (0, 1))), ("3 -1/2", ((3, 1), (-1, 2))), ("-1/2 3", ((-1, 2), (3, 1))),
                ("10 -20", ((10, 1), (-20, 1))), ("100/7 5/100001", ((100, 7), (5, 100001))),
                ("999999999 -999999999", ((999999999, 1), (-999999999, 1))), ("-1 1", ((-1, 1), (1, 1))),
                ("1/999999999 -7/10", ((1, 999999999), (-7, 10)))):
            self.assertEqual(point_text(told), text)
            self.assertEqual(read_point(text), told)

    def test_there_and_back(self):
        for one in POINTS:
            text = point_text(one)
            self.assertEqual(text, " ".join([str(number) for number in pair(one)]))
            self.assertEqual(read_point(text), one)

    def test_kinds(self):
        told = read_point("3 -1/2")
        self.assertEqual([type(told)] + [type(part) for part in told], [tuple, tuple, tuple])
        self.assertEqual([type(number) for part in told for number in part], [int, int, int, int])

    def test_wrong_points(self):
        for wrong in NOT_POINTS:
            self.refused(BadPoint, wrong, point_text, wrong)

    def test_wrong_texts(self):
        for wrong in NOT_POINT_TEXTS + NOT_TEXTS:
            self.refused(BadPoint, wrong, read_point, wrong)

    def test_each_sign_bent(self):
        for text in ("0 0", "1/2 -3", "-10/7 20/3"):
            right = {text: read_point(text)}
            for at in range(len(text) + 1):
                for sign in " -+/0;\n,.":
                    for bent in (text[:at] + sign + text[at:], text[:at] + sign + text[at + 1:]):
                        self.read_just_if_told(bent)
                self.read_just_if_told(text[:at] + text[at + 1:])
            self.assertEqual(point_text(right[text]), text)

    def test_signs_of_all_kinds(self):
        for sign in [chr(number) for number in range(32, 127)] + ["\n"]:
            for word in (sign, "1" + sign, sign + "1", "1" + sign + "2", "5/" + sign, "5/1" + sign + "2", sign + "/7"):
                self.read_just_if_told(word + " 0")
                self.read_just_if_told("0 " + word)

    def read_just_if_told(self, text):
        """A text is read just if it is what Python writes of the two numbers that it may tell."""
        try:
            told = [Fraction(word) for word in text.split(" ")]
        except (ValueError, ZeroDivisionError):
            told = []
        if len(told) == 2 and f"{told[0]} {told[1]}" == text:
            self.assertEqual(read_point(text), point(*told))
        else:
            self.refused(BadPoint, text, read_point, text)


class GreatNumbers(Refusals):
    """What was told may be handed in again, however great its numbers are."""

    def test_texts_of_thousands_of_figures(self):
        for many in (18, 63, 64, 65, 127, 128, 129, 192, 4299, 4300, 4301, 6400, 10000):
            great = 10 ** many
            for number, text in (
                    (great, "1" + "0" * many), (great - 1, "9" * many), (great + 7, "1" + "0" * (many - 1) + "7"),
                    (5 * great // 10, "5" + "0" * (many - 1))):
                for told, word in ((number, text), (-number, "-" + text)):
                    self.assertEqual(point_text(((told, 1), (1, number))), word + " 1/" + text)
                    self.assertEqual(read_point(word + " 1/" + text), ((told, 1), (1, number)))

    def test_halved_many_times(self):
        one = ((1, 3), (-1, 1))
        many = 20000
        for _ in range(many):
            one = halfway(one, ((0, 1), (0, 1)))
        self.assertEqual(one, ((1, 3 * 2 ** many), (-1, 2 ** many)))
        self.assertEqual(read_point(point_text(one)), one)
        self.assertEqual(form(one, 3, 2), (-1, 2 ** many))
        self.assertEqual(ascending((one, SOME, one, ((0, 1), (0, 1)))), (((0, 1), (0, 1)), one, SOME))

    def test_bent_texts(self):
        great = "9" * 5000
        for text in ("0" + great + " 1", great + " 1/0" + great, great, great + "/" + great + " 1", great + "a 1",
                     "a" + great + " 1", great + " 1\n", "1 +" + great, great + "_" + great + " 1", "--" + great + " 1",
                     "3" + great + "/3 1"):
            self.refused(BadPoint, text, read_point, text)

    def test_great_wrong_points(self):
        great = 6 ** 5000
        for wrong in (((great, 4), (0, 1)), ((0, 1), (great, great)), ((1, -great), (0, 1)), ((0, great), (0, 1))):
            self.refused(BadPoint, wrong, point_text, wrong)


class Forms(Refusals):
    def test_sums(self):
        for one in POINTS:
            place, speed = pair(one)
            for p, q in ((1, 0), (0, 1), (1, 1), (-1, 1), (2, -3), (9, 9), (-9, 0), (0, -4), (999999999, -999999999)):
                told = form(one, p, q)
                self.assertEqual(told, fraction(p * place + q * speed))
                self.assertEqual([type(number) for number in told], [int, int])

    def test_in_lowest_terms(self):
        self.assertEqual(form(((1, 6), (1, 3)), 2, -1), (0, 1))
        self.assertEqual(form(((1, 6), (1, 3)), 2, 2), (1, 1))
        self.assertEqual(form(((1, 2), (0, 1)), -2, 5), (-1, 1))

    def test_wrong_points(self):
        for wrong in NOT_POINTS:
            self.refused(BadPoint, wrong, form, wrong, 1, 1)

    def test_wrong_weights(self):
        for wrong in NOT_INTEGERS:
            for other in (0, 1, -9):
                self.pair_refused(BadWeights, (wrong, other), form, SOME, wrong, other)
                self.pair_refused(BadWeights, (other, wrong), form, SOME, other, wrong)
            self.pair_refused(BadWeights, (wrong, wrong), form, SOME, wrong, wrong)
        self.pair_refused(BadWeights, (0, 0), form, SOME, 0, 0)

    def test_point_ahead_of_weights(self):
        for wrong in NOT_POINTS:
            self.refused(BadPoint, wrong, form, wrong, 0, 0)
            self.refused(BadPoint, wrong, form, wrong, True, None)


class Ascending(Refusals):
    def test_as_numbers(self):
        row = ascending(POINTS[:60])
        self.assertEqual(row, tuple(sorted(set(POINTS[:60]), key=pair)))
        self.assertEqual(ascending(POINTS[30:90][::-1]), tuple(sorted(set(POINTS[30:90]), key=pair)))

    def test_not_as_python_sorts_tuples(self):
        places = (((1, 3), (0, 1)), ((1, 2), (0, 1)), ((2, 3), (0, 1)), ((1, 1), (0, 1)))
        self.assertEqual(ascending(places[::-1]), places)
        speeds = (((0, 1), (-1, 2)), ((0, 1), (-1, 3)), ((0, 1), (1, 5)), ((0, 1), (2, 9)), ((0, 1), (1, 4)))
        self.assertEqual(ascending(speeds[::-1]), speeds)
        self.assertEqual(ascending(speeds), speeds)

    def test_by_place_then_by_speed(self):
        row = points((-2, 9), (-1, -9), (-1, 0), (-1, 9), (0, -9), (3, -5), (3, 5))
        for at in range(len(row)):
            self.assertEqual(ascending(row[at:] + row[:at]), row)
            self.assertEqual(ascending((row[at:] + row[:at])[::-1]), row)

    def test_each_once(self):
        self.assertEqual(ascending((SOME,) * 60), (SOME,))
        self.assertEqual(ascending(points((1, 0), (0, 1), (1, 0), (0, 1), (0, 0))), points((0, 0), (0, 1), (1, 0)))

    def test_how_many(self):
        self.assertEqual(ascending(()), ())
        self.assertEqual(ascending((SOME,)), (SOME,))
        sixty = tuple([((place, 7), (1, 1)) for place in range(1, 500) if place % 7 > 0][:60])
        self.assertEqual(len(sixty), 60)
        self.assertEqual(ascending(sixty[::-1]), sixty)
        for more in (sixty + (SOME,), sixty + sixty[:1], (SOME,) * 61, (SOME,) * 200):
            self.refused(BadPoints, more, ascending, more)

    def test_wrong_points(self):
        for wrong in NOT_POINT_TUPLES:
            self.refused(BadPoints, wrong, ascending, wrong)


class Halfway(Refusals):
    def test_halves(self):
        for one in POINTS[::3]:
            for other in POINTS[::5]:
                near, far = pair(one), pair(other)
                told = halfway(one, other)
                self.assertEqual(told, point((near[0] + far[0]) / 2, (near[1] + far[1]) / 2))
                self.assertEqual(told, halfway(other, one))

    def test_of_one_alone(self):
        self.assertEqual(halfway(SOME, SOME), SOME)
        self.assertEqual(halfway(((1, 1), (1, 1)), ((2, 1), (-1, 1))), ((3, 2), (0, 1)))

    def test_wrong_points(self):
        for wrong in NOT_POINTS:
            self.refused(BadPoint, wrong, halfway, wrong, SOME)
            self.refused(BadPoint, wrong, halfway, SOME, wrong)

    def test_one_ahead_of_other(self):
        one, other = nested(list), ((2, 4), (0, 1))
        self.refused(BadPoint, one, halfway, one, other)
        self.refused(BadPoint, other, halfway, other, one)


class Arguments(unittest.TestCase):
    def test_nothing_is_changed(self):
        for wrongs, call in ((NOT_POINTS, point_text), (NOT_TEXTS, read_point), (NOT_POINT_TUPLES, ascending)):
            for wrong in wrongs:
                was = repr(wrong)
                self.assertRaises(ValueError, call, wrong)
                self.assertEqual(repr(wrong), was)

    def test_equal_calls_tell_the_same(self):
        for one in POINTS[::7]:
            again = ((one[0][0], one[0][1]), (one[1][0], one[1][1]))
            self.assertEqual(point_text(one), point_text(again))
            self.assertEqual(form(one, 2, 3), form(again, 2, 3))
            self.assertEqual(ascending((one, SOME)), ascending((again, SOME)))


if __name__ == "__main__":
    unittest.main()
