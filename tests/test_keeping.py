"""Section 14: a Tracker, and how much it does."""

import itertools
import random
import unittest

from allcoursesfit.books import Book, more
from allcoursesfit.errors import (BadLast, BadReading, BadReadings, BadRules, BadState, BadTick, BadWrong, Full,
                                  NoReading)
from allcoursesfit.keeping import Tracker
from allcoursesfit.lots import fits, has
from tests.courses import drawn_motion
from tests.drawn_books import WEIGHTS, drawn_rule, drawn_ticks, true_reading
from tests.elimination import all_choices, chosen_cuts
from tests.test_worlds import drawn_state
from tests.wrong import NOT_INTEGERS, OTHERS, SQUARE, Refusals, points
from tests.wrong_books import (FLAT, NOT_BOOKS, NOT_LAST, NOT_READING, NOT_RULES, NOT_STATES_OF_ONE, NOT_WRONG, RULE,
                               TWENTY_FOUR, exact, unsure)

DOC_RULES = ((0, 20, -4, 4, -1, 1),)


def steps_used(book, tick):
    """The steps that a question about a tick uses, as section 14 tells them."""
    used = set()
    for choice in all_choices(book):
        for axis in range(len(book.rules)):
            cuts = chosen_cuts(book, choice, axis)
            for at in range(tick + 1):
                used.add(("forward", axis, at, frozenset(cut for cut in cuts if cut[0] <= at), None))
            for at in range(tick, book.last + 1):
                used.add(("backward", axis, at, frozenset(cut for cut in cuts if cut[0] >= at), book.last))
    return used


def drawn_reading(R, book, motion):
    """A READING, mostly one that is so in a MOTION; sometimes one that the book can't take."""
    axis = R.randrange(len(book.rules))
    ticks = drawn_ticks(R, book.last, R.random() < 0.5)
    name = R.choice("abcd")
    if R.random() < 0.6:
        return true_reading(R, motion, name, axis, ticks, R.randint(0, 3))
    low = R.randint(-3, 6)
    return (name, axis) + ticks + R.choice(WEIGHTS) + R.choice(((low, None), (None, low), (low, low + 2)))


class Shadow:
    """A Tracker, and what one expects of it, kept by a list."""

    def __init__(self, rules, last, wrong):
        self.tracker = Tracker(rules, last, wrong)
        self.rules, self.last, self.wrong = rules, last, wrong
        self.rows = []
        self.coming = 0
        self.used = set()

    def twin(self):
        other = Shadow(self.rules, self.last, self.wrong)
        other.tracker = self.tracker.copy()
        other.rows, other.coming, other.used = list(self.rows), self.coming, set(self.used)
        return other

    def book(self):
        return Book(self.rules, self.last, tuple([reading for number, reading in self.rows]), self.wrong)


class Drawn(Refusals):
    def look(self, shadow):
        tracker = shadow.tracker
        self.assertEqual(tracker.book, shadow.book())
        self.assertIs(type(tracker.book), Book)
        self.assertEqual(tracker.numbers, tuple([number for number, reading in shadow.rows]))
        self.assertEqual(tracker.work, len(shadow.used))

    def put(self, R, shadow, motion):
        reading = drawn_reading(R, shadow.book(), motion)
        readings = tuple([one for number, one in shadow.rows]) + (reading,)
        if len([one for one in readings if one[2] != one[3]]) > 3:
            was = shadow.tracker.copy()
            error = self.refusal(shadow.tracker.put, reading)
            self.assertEqual((type(error), error.value, shadow.tracker), (BadReadings, readings, was))
            return
        self.assertEqual(shadow.tracker.put(reading), shadow.coming)
        shadow.rows.append((shadow.coming, reading))
        shadow.coming += 1

    def take(self, R, shadow):
        number = R.randint(-1, shadow.coming)
        standing = [row for row in shadow.rows if row[0] == number]
        if not standing:
            self.refused(NoReading, number, shadow.tracker.take, number)
            return
        self.assertIsNone(shadow.tracker.take(number))
        shadow.rows.remove(standing[0])

    def ask(self, R, shadow):
        tick = R.randint(0, shadow.last)
        book = shadow.book()
        shadow.used |= steps_used(book, tick)
        told = shadow.tracker.fits(tick)
        self.assertEqual(told, fits(book, tick))
        self.assertEqual(shadow.tracker.work, len(shadow.used))
        state = drawn_state(R, book)
        if told and R.random() < 0.7:
            state = tuple([R.choice(shape) for shape in R.choice(told)[2]])
        self.assertIs(shadow.tracker.has(tick, state), has(book, tick, state))
        return bool(told)

    def ask_has(self, R, shadow):
        """has alone uses the same steps as fits."""
        tick, book = R.randint(0, shadow.last), shadow.book()
        state = drawn_state(R, book)
        shadow.used |= steps_used(book, tick)
        self.assertIs(shadow.tracker.has(tick, state), has(book, tick, state))

    def later(self, shadow):
        if shadow.last == 12:
            error = self.refusal(shadow.tracker.later)
            self.assertEqual((type(error), error.value), (Full, 12))
        else:
            self.assertIsNone(shadow.tracker.later())
            shadow.last += 1

    def go_on(self, R, shadow, motion, found):
        """One drawn deed, or question."""
        word = R.choice("pppttlffha")
        if word == "p":
            self.put(R, shadow, motion)
        elif word == "t":
            self.take(R, shadow)
        elif word == "l":
            if shadow.last < 5:
                self.later(shadow)
        elif word == "h":
            self.ask_has(R, shadow)
        elif word == "f":
            found.append(self.ask(R, shadow))
        self.look(shadow)

    def test_drawn_deeds(self):
        R = random.Random(331)
        found = []
        for turn in range(160):
            rules = (RULE,) if turn % 3 == 0 else tuple([(-9, 9, -3, 3, -1, 1), (0, 9, -2, 3, -2, 1)][:1 + turn % 2])
            last = turn % 4
            motion = drawn_motion(R, rules, 12, 2)
            shadows = [Shadow(rules, last, turn % 3)]
            for _ in range(18):
                at = R.randrange(len(shadows))
                others = [(one, one.tracker.copy()) for one in shadows if one is not shadows[at]]
                self.go_on(R, shadows[at], motion, found)
                for one, was in others:
                    self.look(one)
                    self.assertEqual(one.tracker, was)
                if len(shadows) < 3 and R.random() < 0.2:
                    shadows.append(shadows[at].twin())
                    self.assertEqual(shadows[-1].tracker, shadows[at].tracker)
        self.assertGreater(found.count(True), 200)
        self.assertGreater(found.count(False), 20)

    def test_rules_of_all_kinds(self):
        R = random.Random(332)
        for turn in range(24):
            shadow = Shadow(tuple([drawn_rule(R) for _ in range(1 + turn % 3)]), turn % 3, turn % 4)
            for _ in range(4):
                axis = R.randrange(len(shadow.rules))
                low = R.randint(-3, 3)
                reading = (R.choice("abc"), axis) + drawn_ticks(R, shadow.last, False) + R.choice(WEIGHTS) + (
                    low, low + 2)
                self.assertEqual(shadow.tracker.put(reading), shadow.coming)
                shadow.rows.append((shadow.coming, reading))
                shadow.coming += 1
                self.ask(R, shadow)
                self.look(shadow)


class Steps(Refusals):
    def test_late_readings_in_any_sequence(self):
        # The same READINGS in another sequence are the same cuts: what is told, but for its sequence, is the same.
        readings = (exact("a", 0, 0, 2, 3), exact("b", 2, 0, 4, 8), exact("a", 4, 0, 5, 9), unsure("c", 1, 3, 0, 4, 6))
        told = set()
        for row in itertools.permutations(readings):
            tracker = Tracker((RULE,), 4, 1)
            for reading in row:
                tracker.put(reading)
            lots = sorted([(wrong, sorted([(reading, tick) for reading, tick in zip(row, ticks)], key=str), shapes)
                           for wrong, ticks, shapes in tracker.fits(2)], key=str)
            told.add((str(lots), tracker.work))
        self.assertEqual(len(told), 1)

    def test_each_step_is_reckoned_once(self):
        tracker = Tracker(DOC_RULES, 2, 0)
        self.assertEqual(tracker.work, 0)
        tracker.fits(1)
        self.assertEqual(tracker.work, 4)
        tracker.fits(1)
        tracker.has(1, points((3, 0)))
        self.assertEqual(tracker.work, 4)
        tracker.fits(0)
        self.assertEqual(tracker.work, 5)
        tracker.fits(2)
        self.assertEqual(tracker.work, 6)
        number = tracker.put(exact("a", 1, 0, 3, 4))
        self.assertEqual(tracker.work, 6)
        tracker.fits(2)
        self.assertEqual(tracker.work, 8)
        tracker.take(number)
        tracker.fits(2)
        self.assertEqual(tracker.work, 8)
        # Taken and put again: nothing new is used, though it has another number.
        self.assertEqual(tracker.put(exact("a", 1, 0, 3, 4)), 1)
        tracker.fits(2)
        self.assertEqual(tracker.work, 8)
        # The same cut, told by another source, or twice, is none more.
        tracker.put(exact("b", 1, 0, 3, 4))
        tracker.fits(2)
        self.assertEqual(tracker.work, 8)
        # The same bounds in other words are another cut.
        tracker.put(("b", 0, 1, 1, 2, 0, 6, 8))
        tracker.fits(2)
        self.assertEqual(tracker.work, 10)

    def test_choices_that_nothing_fits_are_used_too(self):
        tracker = Tracker((RULE, FLAT), 1, 0)
        tracker.put(exact("a", 0, 0, 11, 12))
        self.assertEqual(tracker.fits(1), ())
        # Forward at 0 and 1, backward at 1, on both axes, though nothing is left on the first.
        self.assertEqual(tracker.work, 6)
        self.assertIs(tracker.has(0, points((0, 0), (3, 0))), False)
        self.assertEqual(tracker.work, 8)

    def test_all_choices_are_used_where_has_is_told_at_once(self):
        tracker = Tracker((RULE,), 0, 1)
        for name in "abc":
            tracker.put(exact(name, 0, 0, 0, "abc".index(name) + 5))
        book = tracker.book
        self.assertIs(tracker.has(0, points((1, 0))), True)
        self.assertEqual(tracker.work, len(steps_used(book, 0)))
        self.assertEqual(tracker.work, 6)

    def test_nothing_is_used_where_it_raises(self):
        tracker = Tracker((RULE,), 2, 0)
        self.refusal(tracker.fits, 3)
        self.refusal(tracker.has, 3, points((0, 0)))
        self.refusal(tracker.has, 1, None)
        self.assertEqual(tracker.work, 0)

    def test_copies_keep_what_was_kept(self):
        tracker = Tracker(DOC_RULES, 3, 0)
        tracker.put(exact("a", 1, 0, 3, 4))
        tracker.fits(2)
        other = tracker.copy()
        self.assertEqual((other.work, other.fits(2), other.work), (tracker.work, tracker.fits(2), tracker.work))
        other.put(exact("a", 3, 0, 5, 6))
        other.fits(3)
        was = tracker.work
        self.assertGreater(other.work, was)
        tracker.fits(0)
        self.assertEqual(tracker.work, was + 2)
        again = tracker.work
        other.fits(0)
        self.assertEqual(tracker.work, again)
        # All steps of all ticks are used by now.
        third = other.copy()
        for tick in range(4):
            third.fits(tick)
        self.assertEqual(third.work, other.work)


class Deeds(Refusals):
    def test_attributes_from_the_beginning(self):
        tracker = Tracker((RULE, FLAT), 7, 2)
        self.assertEqual((tracker.book, tracker.numbers, tracker.work), (Book((RULE, FLAT), 7, (), 2), (), 0))
        for name in ("book", "numbers", "work"):
            self.assertIn(name, vars(tracker))
        tracker = Tracker(wrong=0, last=1, rules=(RULE,))
        self.assertEqual(tracker.put(reading=exact("a")), 0)
        self.assertIsNone(tracker.take(number=0))
        self.assertEqual(tracker.fits(tick=1), fits(tracker.book, 1))
        self.assertIs(tracker.has(state=points((4, 0)), tick=1), True)

    def test_numbers_are_never_used_twice(self):
        tracker = Tracker((RULE,), 3, 1)
        self.assertEqual([tracker.put(exact(name)) for name in "abc"], [0, 1, 2])
        self.assertIsNone(tracker.take(2))
        self.assertEqual(tracker.put(exact("c")), 3)
        for number in (0, 1, 3):
            tracker.take(number)
        self.assertEqual((tracker.numbers, tracker.book.readings), ((), ()))
        self.assertEqual(tracker.put(exact("a")), 4)
        self.assertEqual(tracker.numbers, (4,))
        for number in (0, 1, 2, 3, 5):
            self.refused(NoReading, number, tracker.take, number)
        other = tracker.copy()
        self.assertEqual((tracker.put(exact("b")), other.put(exact("c"))), (5, 5))

    def test_last_twelve(self):
        tracker = Tracker((RULE,), 11, 0)
        self.assertIsNone(tracker.later())
        self.assertEqual(tracker.book.last, 12)
        was = tracker.copy()
        for _ in range(2):
            error = self.refusal(tracker.later)
            self.assertEqual((type(error), error.value), (Full, 12))
        self.assertEqual(tracker, was)
        tracker.put(exact("a", 12, 0, 5, 5))
        self.assertEqual(tracker.fits(12), fits(tracker.book, 12))
        self.assertEqual(len(tracker.fits(0)), 1)

    def test_a_later_tick_takes_readings(self):
        tracker = Tracker((RULE,), 0, 0)
        reading = exact("a", 1, 0, 5, 5)
        self.refused(BadReading, reading, tracker.put, reading)
        tracker.later()
        self.assertEqual(tracker.put(reading), 0)
        self.assertEqual(tracker.fits(1), fits(tracker.book, 1))

    def test_twenty_four_readings(self):
        tracker = Tracker((RULE,), 12, 3)
        for number, reading in enumerate(TWENTY_FOUR):
            self.assertEqual(tracker.put(reading), number)
        error = self.refusal(tracker.put, exact("a"))
        self.assertEqual((type(error), error.value), (BadReadings, TWENTY_FOUR + (exact("a"),)))
        self.assertEqual(tracker.numbers, tuple(range(24)))
        tracker.take(7)
        self.assertEqual(tracker.put(exact("b")), 24)
        self.assertEqual(tracker.numbers, tuple([number for number in range(25) if number != 7]))
        self.assertEqual(tracker.book.readings, TWENTY_FOUR[:7] + TWENTY_FOUR[8:] + (exact("b"),))
        for tick in (12, 1, 0):
            self.assertEqual(tracker.fits(tick), fits(tracker.book, tick))
        self.assertEqual(tracker.work, len(steps_used(tracker.book, 12) | steps_used(tracker.book, 0)))

    def test_sources_and_unsure_ones(self):
        tracker = Tracker((RULE,), 3, 0)
        for name in "abcdef":
            tracker.put(exact(name))
        readings = tracker.book.readings + (exact("g"),)
        error = self.refusal(tracker.put, exact("g"))
        self.assertEqual((type(error), error.value), (BadReadings, readings))
        for name in "abc":
            tracker.put(unsure(name))
        self.assertIs(type(self.refusal(tracker.put, unsure("d"))), BadReadings)
        tracker.take(3)
        self.assertEqual(tracker.put(exact("g")), 9)

    def test_equal(self):
        one, other = Tracker((RULE,), 3, 1), Tracker((RULE,), 3, 1)
        self.assertTrue(one == other and not one != other)
        one.put(exact("a"))
        self.assertTrue(one != other)
        other.put(exact("a"))
        self.assertTrue(one == other)
        one.fits(1)
        self.assertTrue(one == other)
        one.put(exact("b"))
        one.take(1)
        # The number of the next one differs.
        self.assertTrue(one.book == other.book and one.numbers == other.numbers and one != other)
        other.put(exact("b"))
        other.take(1)
        self.assertTrue(one == other)
        one.put(exact("b"))
        one.take(0)
        other.put(exact("a"))
        self.assertTrue(one != other)
        self.assertTrue(Tracker((RULE,), 3, 1) != Tracker((RULE,), 2, 1))
        self.assertTrue(Tracker((RULE,), 3, 1) != Tracker((RULE,), 3, 2))
        for value in OTHERS + (0, (), one.book, "tracker"):
            self.assertIs(one == value, False)
            self.assertIs(one != value, True)
            self.assertIs(value == one, False)
        # Alike books, and the next number, but not the numbers that stand.
        one, other = Tracker((RULE,), 3, 1), Tracker((RULE,), 3, 1)
        for number, tracker in enumerate((one, other)):
            tracker.put(exact("a"))
            tracker.put(exact("a"))
            tracker.take(number)
        self.assertTrue(one.book == other.book and one != other)
        # Alike books and numbers, though they came otherwise.
        one, other = Tracker((RULE,), 2, 1), Tracker((RULE,), 2, 1)
        for tracker, row in ((one, "ab"), (other, "bb")):
            for name in row:
                tracker.put(exact(name))
        one.take(0)
        other.take(0)
        self.assertEqual(one, other)

    def test_operators(self):
        tracker = Tracker((RULE,), 1, 0)
        for call in (lambda: tracker < tracker, lambda: tracker + 1, lambda: tracker >= 0, lambda: -tracker,
                     lambda: len(tracker), lambda: list(tracker), lambda: tracker[0], lambda: 1 in tracker):
            self.assertRaises(TypeError, call)


class Wrong(Refusals):
    def test_created(self):
        for wrong in NOT_RULES:
            self.refused(BadRules, wrong, Tracker, wrong, 2, 0)
            self.refused(BadRules, wrong, Tracker, wrong, None, None)
        for wrong in NOT_LAST:
            self.refused(BadLast, wrong, Tracker, (RULE,), wrong, 0)
            self.refused(BadLast, wrong, Tracker, (RULE,), wrong, None)
        for wrong in NOT_WRONG:
            self.refused(BadWrong, wrong, Tracker, (RULE,), 2, wrong)

    def test_deeds_that_are_refused_change_nothing(self):
        tracker = Tracker((RULE, FLAT), 5, 1)
        tracker.put(exact("a"))
        tracker.put(exact("b", 5))
        tracker.fits(3)
        was, work = tracker.copy(), tracker.work
        for wrong in NOT_READING + (exact("a", 6), exact("a", 0, 2), unsure("a", 5, 6)):
            self.refused(BadReading, wrong, tracker.put, wrong)
        for wrong in NOT_INTEGERS + (-1, 2, 3, 10 ** 30):
            self.refused(NoReading, wrong, tracker.take, wrong)
        for wrong in NOT_INTEGERS + (-1, 6, 13, 10 ** 30):
            self.refused(BadTick, wrong, tracker.fits, wrong)
            self.refused(BadTick, wrong, tracker.has, wrong, points((0, 0), (3, 0)))
            self.refused(BadTick, wrong, tracker.has, wrong, None)
        for wrong in OTHERS + (points((0, 0)), points((0, 0), (0, 0), (0, 0)), SQUARE, [points((0, 0))] * 2):
            self.refused(BadState, wrong, tracker.has, 0, wrong)
        self.assertEqual((tracker, tracker.work), (was, work))
        one = Tracker((RULE,), 0, 0)
        for wrong in NOT_STATES_OF_ONE:
            self.refused(BadState, wrong, one.has, 0, wrong)
        self.assertEqual(one.work, 0)

    def test_a_tracker_is_no_book(self):
        tracker = Tracker((RULE,), 1, 0)
        error = self.refusal(fits, tracker, 0)
        self.assertEqual((type(error).__name__, error.value), ("NoBook", tracker))
        self.assertEqual(more(tracker.book, exact("a")).readings, (exact("a"),))
        self.assertEqual(tracker.book.readings, ())
        self.assertNotIn(tracker, NOT_BOOKS)


if __name__ == "__main__":
    unittest.main()
