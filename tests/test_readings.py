"""Section 7, first part: READINGS, their texts, and what fulfils them."""

import random
import unittest
from fractions import Fraction

from allcoursesfit.errors import BadReading, BadReadings, BadStates
from allcoursesfit.readings import fulfils, read_reading, reading_text, sources
from tests.courses import drawn_motion, held_ticks
from tests.model import point
from tests.wrong import NOT_TEXTS, SOME, Refusals, nested, points
from tests.wrong_books import (EXACT, FLAT, NOT_READING, NOT_READING_TEXTS, NOT_READINGS, NOT_STATES_OF_ONE,
                               NOT_STATES_OF_TWO, READING, RULE, SIX, SLOW, THREE_UNSURE, TWENTY_FOUR, exact, run)

TEXTS = {
    READING: "radar 0 3..5 1 0 2..",
    EXACT: "ear 0 1 2 -1 -3..3",
    ("eye", 1, 0, 0, 0, 1, None, -4): "eye 1 0 0 1 ..-4",
    ("a", 2, 12, 12, -9, 9, -9999, 9999): "a 2 12 -9 9 -9999..9999",
    ("z9999999", 0, 9, 12, 9, -9, 9999, None): "z9999999 0 9..12 9 -9 9999..",
    ("b0", 1, 0, 3, 0, -1, None, -9999): "b0 1 0..3 0 -1 ..-9999",
    ("c", 1, 10, 11, 5, 0, 0, 0): "c 1 10..11 5 0 0..0",
    ("d", 0, 2, 3, -1, 0, -1, -1): "d 0 2..3 -1 0 -1..-1",
}


class Texts(Refusals):
    def test_texts(self):
        for reading, text in TEXTS.items():
            self.assertEqual(reading_text(reading), text)
            self.assertEqual(read_reading(text), reading)
            self.assertIs(type(read_reading(text)), tuple)

    def test_there_and_back(self):
        R = random.Random(71)
        for _ in range(400):
            first = R.randint(0, 12)
            last = R.randint(first, min(12, first + 3))
            low, high = sorted((R.randint(-9999, 9999), R.randint(-9999, 9999)))
            low, high = R.choice(((low, high), (low, None), (None, high), (low, low)))
            p, q = R.choice(((R.randint(-9, 9), R.randint(1, 9)), (R.randint(1, 9), 0), (0, -R.randint(1, 9))))
            reading = (R.choice("abcxyz") + R.choice(("", "0", "zz9", "1234567")), R.randint(0, 2), first, last, p, q,
                       low, high)
            self.assertEqual(read_reading(reading_text(reading)), reading)

    def test_bent_texts(self):
        for wrong in NOT_READING_TEXTS:
            self.refused(BadReading, wrong, read_reading, wrong)

    def test_each_sign_bent(self):
        for text in TEXTS.values():
            for at in range(len(text)):
                for bent in (text[:at] + text[at + 1:], text[:at] + " " + text[at:], text[:at] + "x" + text[at + 1:],
                             text[:at] + "." + text[at:], text[:at] + "0" + text[at:], text[:at] + "-" + text[at:]):
                    try:
                        told = read_reading(bent)
                    except BadReading as error:
                        self.assertIs(error.value, bent)
                    else:
                        self.assertEqual(reading_text(told), bent)

    def test_no_readings(self):
        for wrong in NOT_READING:
            self.refused(BadReading, wrong, reading_text, wrong)

    def test_no_texts(self):
        for wrong in NOT_TEXTS + (READING, nested(list)):
            self.refused(BadReading, wrong, read_reading, wrong)

    def test_very_long_texts(self):
        for wrong in ("a" * 99999, "radar 0 3 1 0 " + "9" * 9999 + "..", " " * 99999, "radar 0 3 1 0 2.." + "." * 9999):
            self.refused(BadReading, wrong, read_reading, wrong)


class Fulfils(Refusals):
    def test_bounds_counted_in(self):
        third = ((point(Fraction(7, 3), Fraction(-1, 2)),),)
        for p, q, low, high, told in (
                (3, 0, 7, 7, True), (3, 0, 8, None, False), (3, 0, 7, None, True), (3, 0, None, 7, True),
                (3, 0, None, 6, False), (1, 0, 2, 3, True), (1, 0, 3, 3, False), (1, 0, 2, 2, False),
                (0, 2, -1, -1, True), (0, 1, -1, 0, True), (0, 1, 0, 1, False), (3, 2, 6, 6, True),
                (3, 2, 7, None, False), (3, -2, 8, 8, True), (-3, 2, -8, -8, True), (-3, 2, None, -9, False)):
            self.assertIs(fulfils(("a", 0, 0, 0, p, q, low, high), third), told)

    def test_some_tick(self):
        states = run((0, 0), (0, 1), (1, 1), (2, 1))
        for first in range(4):
            for last in range(first, 4):
                for low in range(-1, 4):
                    held = any(low <= place for place in (0, 0, 1, 2)[first:last + 1])
                    self.assertIs(fulfils(("a", 0, first, last, 1, 0, low, None), states), held)
                    held = any(low == place for place in (0, 0, 1, 2)[first:last + 1])
                    self.assertIs(fulfils(("a", 0, first, last, 1, 0, low, low), states), held)

    def test_low_and_high_at_the_same_tick(self):
        self.assertIs(fulfils(("a", 0, 0, 1, 1, 0, 2, 3), run((1, 0), (4, 0))), False)

    def test_any_states_at_all(self):
        states = run((0, 0), (999, -5), (-3, 77))
        self.assertIs(fulfils(("a", 0, 1, 1, 1, 0, 999, None), states), True)
        self.assertIs(fulfils(("a", 0, 0, 2, 0, 1, 78, None), states), False)

    def test_axes(self):
        states = (points((1, 2), (3, 4), (5, 6)),)
        for axis in range(3):
            for place in range(7):
                self.assertIs(fulfils(("a", axis, 0, 0, 1, 0, place, place), states), place == 2 * axis + 1)

    def test_drawn(self):
        R = random.Random(72)
        rules = (RULE, (-9, 9, -3, 3, -2, 1), FLAT)
        told = []
        for _ in range(300):
            motion = drawn_motion(R, rules, 4, 3)
            first = R.randint(0, 4)
            low = R.randint(-9, 9)
            reading = ("a", R.randint(0, 2), first, R.randint(first, min(4, first + 3)), R.randint(-2, 2),
                       R.choice((-2, -1, 1, 2)), *R.choice(((low, None), (None, low), (low, low + 1), (low, low + 4))))
            told.append(fulfils(reading, motion))
            self.assertIs(told[-1], held_ticks(reading, motion) != [])
        self.assertIn(True, told)
        self.assertIn(False, told)

    def test_great_numbers(self):
        great = 3 ** 9999
        states = ((((great + 1, great), (1, great)),),)
        self.assertIs(fulfils(("a", 0, 0, 0, 1, 0, None, 1), states), False)
        self.assertIs(fulfils(("a", 0, 0, 0, 1, -1, None, 1), states), True)

    def test_reading_first(self):
        for wrong in NOT_READING:
            self.refused(BadReading, wrong, fulfils, wrong, SLOW)
            self.refused(BadReading, wrong, fulfils, wrong, None)

    def test_states(self):
        reading = ("a", 0, 0, 0, 1, 0, 2, None)
        for wrong in NOT_STATES_OF_ONE:
            if wrong != (SOME, SOME):
                for states in ((wrong,), SLOW + (wrong,), (wrong,) + SLOW):
                    self.refused(BadStates, states, fulfils, reading, states)
        for wrong in NOT_STATES_OF_TWO:
            for states in ((points((4, 0), (3, 0)), wrong), (wrong, points((4, 0), (3, 0)))):
                self.refused(BadStates, states, fulfils, reading, states)
        others = (None, True, 0, "", "0 0", (), [], {}, list(SLOW), [SLOW], (SLOW,), SOME, run(*[(0, 0)] * 14), ((),),
                  ((), ()), nested(tuple), nested(list), (points((1, 1), (2, 2), (3, 3), (4, 4)),), (list(SLOW[0]),),
                  (SLOW[0], points((1, 1), (2, 2))), {SLOW[0]: SLOW[0]}, (None,), (1,))
        for wrong in others:
            self.refused(BadStates, wrong, fulfils, reading, wrong)
        self.assertIs(fulfils(reading, (points((1, 1), (2, 2), (3, 3)),)), False)

    def test_states_long_and_wide_enough(self):
        for many in range(1, 14):
            for last in range(13):
                states = run(*[(4, 0)] * many)
                reading = ("a", 0, max(0, last - 3), last, 1, 0, 4, 4)
                if many > last:
                    self.assertIs(fulfils(reading, states), True)
                else:
                    self.refused(BadStates, states, fulfils, reading, states)
        for many in (1, 2, 3):
            states = (points(*[(4, 0)] * many),)
            for axis in range(3):
                reading = ("a", axis, 0, 0, 1, 0, 4, 4)
                if many > axis:
                    self.assertIs(fulfils(reading, states), True)
                else:
                    self.refused(BadStates, states, fulfils, reading, states)


class Sources(Refusals):
    def test_sources(self):
        self.assertEqual(sources(()), ())
        self.assertEqual(sources((READING, EXACT, READING)), ("ear", "radar"))
        self.assertEqual(sources(SIX[::-1]), ("a", "b", "c", "d", "e", "f"))
        self.assertEqual(sources(TWENTY_FOUR), ("a", "b", "c", "d", "e", "f"))
        self.assertEqual(sources(THREE_UNSURE), ("a", "b", "c"))
        self.assertEqual(sources((exact("b"), exact("a1"), exact("a"), exact("a10"), exact("a2"))),
                         ("a", "a1", "a10", "a2", "b"))

    def test_wrong(self):
        for wrong in NOT_READINGS:
            self.refused(BadReadings, wrong, sources, wrong)


if __name__ == "__main__":
    unittest.main()
