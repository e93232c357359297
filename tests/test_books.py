"""Section 7, second part: BOOKS, their texts, and what is a MOTION and a WORLD by them."""

import itertools
import random
import unittest

from allcoursesfit.books import Book, is_motion, is_world, more, read_book, without
from allcoursesfit.errors import BadBook, BadLast, BadReading, BadReadings, BadRules, BadWrong, NoBook, NoReading
from tests.courses import drawn_motion, strictly_motion, strictly_world, wrong_in
from tests.model import fraction
from tests.wrong import NOT_INTEGERS, NOT_TEXTS, OTHERS, SOME, Refusals, nested
from tests.wrong_books import (EXACT, FLAT, NOT_BOOKS, NOT_LAST, NOT_MOTIONS, NOT_NAMES, NOT_READING,
                               NOT_READING_TEXTS, NOT_READINGS, NOT_RULES, NOT_WRONG, ONE, READING, RULE, SIX, SLOW,
                               THREE_UNSURE, TWENTY_FOUR, TWO, exact, run, unsure)

TEXT = "rule 0 10 -2 2 -1 1\nrule 3 3 0 0 0 0\nlast 5\nwrong 2\nread ear 0 1 2 -1 -3..3\nread radar 1 3..5 1 0 2.."
HEAD = ["rule 0 10 -2 2 -1 1", "last 3", "wrong 1"]


def some_books():
    yield Book((RULE,), 0, (), 0)
    yield Book((FLAT, RULE), 12, (), 3)
    yield Book((RULE, FLAT, (-1000, 1000, -1000, 1000, -1000, 1000)), 5, (EXACT, READING[:1] + (2,) + READING[2:]), 2)
    yield Book((RULE,), 12, TWENTY_FOUR, 3)
    yield Book((RULE,), 2, THREE_UNSURE, 1)
    yield ONE
    yield TWO


class Books(Refusals):
    def test_what_it_keeps(self):
        readings = (READING, EXACT, READING)
        book = Book((RULE,), 5, readings, 3)
        told = (book.rules, book.last, book.readings, book.wrong, book.sources)
        self.assertEqual(told, ((RULE,), 5, readings, 3, ("ear", "radar")))
        self.assertEqual([type(one) for one in told], [tuple, int, tuple, int, tuple])
        self.assertEqual(book.text, "rule 0 10 -2 2 -1 1\nlast 5\nwrong 3\nread radar 0 3..5 1 0 2..\n"
                                    "read ear 0 1 2 -1 -3..3\nread radar 0 3..5 1 0 2..")
        for name in ("rules", "last", "readings", "wrong", "sources", "text"):
            self.assertTrue(hasattr(book, name))
        self.assertEqual(Book((RULE,), 0, (), 0).text, "rule 0 10 -2 2 -1 1\nlast 0\nwrong 0")
        self.assertEqual(Book((RULE,), 0, (), 0).sources, ())

    def test_by_name(self):
        self.assertEqual(Book(wrong=1, readings=(EXACT,), last=2, rules=(RULE,)), Book((RULE,), 2, (EXACT,), 1))

    def test_wrong_values(self):
        for wrong in NOT_RULES:
            self.refused(BadRules, wrong, Book, wrong, 3, (), 0)
            self.refused(BadRules, wrong, Book, wrong, None, None, None)
        for wrong in NOT_LAST:
            self.refused(BadLast, wrong, Book, (RULE,), wrong, (), 0)
            self.refused(BadLast, wrong, Book, (RULE,), wrong, (EXACT, None), True)
        for wrong in NOT_READINGS:
            self.refused(BadReadings, wrong, Book, (RULE,), 5, wrong, 0)
            self.refused(BadReadings, wrong, Book, (RULE,), 5, wrong, None)
        for wrong in NOT_WRONG:
            self.refused(BadWrong, wrong, Book, (RULE,), 5, (EXACT,), wrong)

    def test_edges_of_numbers(self):
        for last in range(13):
            self.assertEqual(Book((RULE,), last, (), 0).last, last)
        for wrong in range(4):
            self.assertEqual(Book((RULE,), 1, (EXACT,), wrong).wrong, wrong)
        self.assertEqual(len(Book((RULE,), 0, TWENTY_FOUR, 0).readings), 24)
        readings = TWENTY_FOUR + (exact("a"),)
        self.refused(BadReadings, readings, Book, (RULE,), 0, readings, 0)
        readings = SIX + (exact("g"),)
        self.refused(BadReadings, readings, Book, (RULE,), 0, readings, 0)
        self.assertEqual(len(Book((RULE,), 2, THREE_UNSURE, 0).readings), 5)
        readings = THREE_UNSURE + (unsure("a"),)
        self.refused(BadReadings, readings, Book, (RULE,), 2, readings, 0)

    def test_readings_beyond_the_book(self):
        other, third = ("eye", 1, 0, 0, 1, 0, 0, 0), ("eye", 2, 0, 0, 1, 0, 0, 0)
        late, later = ("eye", 0, 2, 4, 1, 0, 0, 0), ("eye", 0, 6, 6, 1, 0, 0, 0)
        for last, rules, readings, bad in (
                (3, (RULE,), (EXACT, other), other), (3, (RULE,), (EXACT, other, third, late), other),
                (3, (RULE, FLAT), (EXACT, other, late), late), (3, (RULE, FLAT), (EXACT, late, third), late),
                (4, (RULE, FLAT), (late, third), third), (0, (RULE,), (EXACT,), EXACT), (5, (RULE,), (late, later),
                    later),
                (3, (RULE, RULE, RULE), (third, other, later), later)):
            for wrong in (0, None, 4):
                self.refused(BadReading, bad, Book, rules, last, readings, wrong)
        self.assertEqual(Book((RULE, FLAT, RULE), 6, (other, third, late, later), 0).sources, ("eye",))

    def test_equality(self):
        books = list(some_books())
        for one, other in itertools.product(books, books):
            self.assertEqual(one == other, one.text == other.text)
            self.assertEqual(one != other, one.text != other.text)
        for value in OTHERS + (ONE.text, 0, (ONE,), [ONE]):
            self.assertFalse(ONE == value)
            self.assertTrue(ONE != value)
            self.assertFalse(value == ONE)
        self.assertFalse(ONE is Book(ONE.rules, ONE.last, ONE.readings, ONE.wrong))
        self.assertTrue(ONE == Book(ONE.rules, ONE.last, ONE.readings, ONE.wrong))
        self.assertFalse(ONE == Book(ONE.rules, ONE.last, ONE.readings[::-1], ONE.wrong))
        self.assertFalse(ONE == Book(ONE.rules, ONE.last, ONE.readings, 0))

    def test_no_order(self):
        for value in (ONE, 1, None, ()):
            self.assertRaises(TypeError, lambda: ONE < value)
            self.assertRaises(TypeError, lambda: ONE + value)
            self.assertRaises(TypeError, lambda: len(ONE))


class Texts(Refusals):
    def bad_book(self, number, text):
        error = self.refusal(read_book, text)
        self.assertIs(type(error), BadBook)
        self.assertIs(type(error.value), int)
        self.assertEqual(error.value, number, text)

    def test_there_and_back(self):
        for book in some_books():
            told = read_book(book.text)
            self.assertIs(type(told), Book)
            self.assertEqual((told.rules, told.last, told.readings, told.wrong, told.sources, told.text),
                             (book.rules, book.last, book.readings, book.wrong, book.sources, book.text))
            self.assertEqual(told, book)
        self.assertEqual(read_book(text=TEXT).text, TEXT)

    def test_no_string(self):
        for wrong in NOT_TEXTS + (nested(list), ONE):
            self.bad_book(0, wrong)

    def test_lines_missing(self):
        lines = TEXT.split("\n")
        self.bad_book(1, "")
        self.bad_book(2, lines[0])
        self.bad_book(3, "\n".join(lines[:2]))
        self.bad_book(4, "\n".join(lines[:3]))
        self.bad_book(3, "\n".join([lines[0], lines[2]]))
        self.assertEqual(read_book("\n".join(lines[:4])).readings, ())

    def test_a_line_out(self):
        lines = TEXT.split("\n")
        self.bad_book(2, "\n".join(lines[2:] and [lines[0]] + lines[3:]))
        self.bad_book(1, "\n".join(lines[2:]))
        self.bad_book(4, "\n".join(lines[:3] + lines[4:]))
        self.bad_book(5, "\n".join(lines[:1] + lines[2:]))
        self.assertEqual(read_book("\n".join(lines[:5])).readings, (EXACT,))

    def test_line_feeds(self):
        for book in some_books():
            lines = book.text.split("\n")
            self.bad_book(len(lines) + 1, book.text + "\n")
            self.bad_book(1, "\n" + book.text)
            for at in range(1, len(lines)):
                self.bad_book(at + 1, "\n".join(lines[:at] + [""] + lines[at:]))
        self.bad_book(1, "\n")

    def test_too_many_rules(self):
        rule = "rule 0 10 -2 2 -1 1"
        for many in range(1, 4):
            self.assertEqual(read_book("\n".join([rule] * many + ["last 3", "wrong 0"])).rules, (RULE,) * many)
        self.bad_book(4, "\n".join([rule] * 4 + ["last 3", "wrong 0"]))
        self.bad_book(4, "\n".join([rule] * 5))

    def test_bent_heads(self):
        for at, others in (
                (0, ("rule", "rule ", "rule 0 10 -2 2 -1", "rule 0 10 -2 2 -1 1 1", "rule 0 10 -2 2 -1 1 ",
                     "Rule 0 10 -2 2 -1 1",
                     " rule 0 10 -2 2 -1 1", "rule  0 10 -2 2 -1 1", "rule 0 10  -2 2 -1 1", "rule 10 0 -2 2 -1 1",
                     "rule 0 10 2 -2 -1 1", "rule 0 10 -2 2 1 -1", "rule 0 1001 -2 2 -1 1", "rule -1001 1 -2 2 -1 1",
                     "rule 0 10 -2 2 -1 1/2", "rule 00 10 -2 2 -1 1", "rule -0 10 -2 2 -1 1", "rule +0 10 -2 2 -1 1",
                     "rules 0 10 -2 2 -1 1", "rule 0 10 -2 2 -1 x", "rule,0 10 -2 2 -1 1", "0 10 -2 2 -1 1", "last 3",
                     "rule\t0 10 -2 2 -1 1", "rule 0 10 -2 2 -1 None", "rule (0, 10, -2, 2, -1, 1)", "wrong 1")),
                (1, ("last", "last ", "last 13", "last -1", "last 03", "last +3", "last 3 ", " last 3", "last  3",
                     "last 3 3",
                     "Last 3", "last x", "last 3.0", "wrong 1", "rule", "rule 0 10 2 -2 -1 1", "last 3/1", "last None",
                     "last3", "last 1_0", "read ear 0 1 2 -1 -3..3", "last -0")),
                (2, ("wrong", "wrong ", "wrong 4", "wrong -1", "wrong 01", "wrong +1", "wrong 1 ", " wrong 1",
                     "wrong  1",
                     "wrong 1 1", "Wrong 1", "wrong x", "last 3", "rule 0 10 -2 2 -1 1", "read ear 0 1 2 -1 -3..3",
                     "wrong -0", "deeds"))):
            for other in others:
                for behind in ([], ["read ear 0 1 2 -1 -3..3"], ["x"]):
                    self.bad_book(at + 1, "\n".join(HEAD[:at] + [other] + HEAD[at + 1:] + behind))

    def test_bent_readings(self):
        good = ["read ear 0 1 2 -1 -3..3"]
        for wrong in NOT_READING_TEXTS:
            if "\n" not in wrong:
                self.bad_book(4, "\n".join(HEAD + ["read " + wrong] + good))
                self.bad_book(6, "\n".join(HEAD + good + good + ["read " + wrong]))
        for wrong in ("read", "ear 0 1 2 -1 -3..3", "Read ear 0 1 2 -1 -3..3", "read  ear 0 1 2 -1 -3..3", "deeds",
                      " read ear 0 1 2 -1 -3..3", "last 3", "wrong 1", "rule 0 10 -2 2 -1 1", "off 0", "reading"):
            self.bad_book(5, "\n".join(HEAD + good + [wrong] + good))

    def test_readings_that_a_book_refuses(self):
        self.bad_book(4, "\n".join(HEAD + ["read ear 1 1 2 -1 -3..3"]))
        self.bad_book(4, "\n".join(HEAD + ["read ear 0 4 2 -1 -3..3"]))
        self.bad_book(4, "\n".join(HEAD + ["read ear 0 3..4 2 -1 -3..3"]))
        self.assertEqual(len(read_book("\n".join(HEAD + ["read ear 0 1..3 2 -1 -3..3"])).readings), 1)
        self.bad_book(5, "\n".join(HEAD[:1] + HEAD + ["read ear 2 1 2 -1 -3..3", "x"]))
        some = ["read " + name + " 0 0 1 0 0..9" for name in "abcdef"]
        self.assertEqual(len(read_book("\n".join(HEAD + some * 4)).readings), 24)
        self.bad_book(28, "\n".join(HEAD + some * 5))
        self.bad_book(10, "\n".join(HEAD + some + ["read g 0 0 1 0 0..9"]))
        self.bad_book(10, "\n".join(HEAD + some + ["read g 0 0 1 0 0..9", "x"]))
        three = ["read a 0 0..1 1 0 0..9"] * 3
        self.assertEqual(len(read_book("\n".join(HEAD + three + some)).readings), 9)
        self.bad_book(8, "\n".join(HEAD + three + some[:1] + three))

    def test_each_sign_bent(self):
        for at in range(len(TEXT)):
            for bent in (TEXT[:at] + TEXT[at + 1:], TEXT[:at] + " " + TEXT[at:], TEXT[:at] + "x" + TEXT[at + 1:],
                         TEXT[:at] + "\n" + TEXT[at:], TEXT[:at] + "0" + TEXT[at:], TEXT[:at] + "-" + TEXT[at:]):
                try:
                    told = read_book(bent)
                except BadBook as error:
                    line = TEXT[:at].count("\n") + 1
                    # Where a line feed is put into a line, or taken away behind one, the next one can be the first.
                    self.assertIn(error.value, (line, line + 1), bent)
                else:
                    self.assertEqual(told.text, bent)


class Changed(Refusals):
    def test_more(self):
        book = Book((RULE, FLAT), 5, (), 1)
        readings = ()
        for reading in (EXACT, READING, EXACT, ("eye", 1, 5, 5, 0, 1, None, 3)):
            readings = readings + (reading,)
            book = more(book, reading)
            self.assertEqual(book, Book((RULE, FLAT), 5, readings, 1))
            self.assertIs(type(book), Book)
        self.assertEqual(more(reading=EXACT, book=TWO).readings, (EXACT, EXACT))
        self.assertEqual(TWO.readings, (EXACT,))

    def test_more_refused(self):
        for wrong in NOT_BOOKS:
            self.refused(NoBook, wrong, more, wrong, EXACT)
            self.refused(NoBook, wrong, more, wrong, None)
        for wrong in NOT_READING:
            self.refused(BadReading, wrong, more, ONE, wrong)
        for wrong in (("eye", 1, 0, 0, 1, 0, 0, 0), ("eye", 2, 0, 0, 1, 0, 0, 0), ("eye", 0, 4, 4, 1, 0, 0, 0),
                      ("eye", 0, 1, 4, 1, 0, 0, 0)):
            self.refused(BadReading, wrong, more, ONE, wrong)
            self.refused(BadReading, wrong, more, Book((RULE,), 3, TWENTY_FOUR, 0), wrong)

    def test_more_than_readings_can_be(self):
        for readings, reading in ((TWENTY_FOUR, exact("a")), (SIX, exact("g")), (THREE_UNSURE, unsure("a")),
                                  (SIX, unsure("g")), (TWENTY_FOUR, exact("g"))):
            error = self.refusal(more, Book((RULE,), 2, readings, 2), reading)
            self.assertIs(type(error), BadReadings)
            self.assertIs(type(error.value), tuple)
            self.assertEqual(error.value, readings + (reading,))
        self.assertEqual(len(more(Book((RULE,), 2, TWENTY_FOUR[1:], 2), exact("a")).readings), 24)
        self.assertEqual(len(more(Book((RULE,), 2, THREE_UNSURE, 2), exact("d")).readings), 6)

    def test_without(self):
        for book in some_books():
            for number in range(len(book.readings)):
                left = without(book, number)
                readings = book.readings[:number] + book.readings[number + 1:]
                self.assertEqual(left, Book(book.rules, book.last, readings, book.wrong))
            for wrong in (-1, -2, len(book.readings), len(book.readings) + 1, 10 ** 30) + NOT_INTEGERS:
                self.refused(NoReading, wrong, without, book, wrong)
        self.assertEqual(without(number=1, book=ONE).readings, (EXACT,))
        for wrong in NOT_BOOKS:
            self.refused(NoBook, wrong, without, wrong, 0)
            self.refused(NoBook, wrong, without, wrong, None)

    def test_there_and_back(self):
        for book in some_books():
            if book.readings:
                self.assertEqual(more(without(book, len(book.readings) - 1), book.readings[-1]), book)


def near_motions(R, motion):
    """Values near to a MOTION: each one differs in one place."""
    tick, axis, word = R.randrange(len(motion)), R.randrange(len(motion[0])), R.randrange(2)
    top, bottom = motion[tick][axis][word]
    for number in (fraction(0), (top + 1, bottom), (top * 2, bottom * 2), (top, -bottom), [top, bottom], top, None,
                   (top, bottom, 1), fraction(1), (top + bottom, bottom), (top - bottom, bottom),
                   fraction(top) if bottom == 1 else (7 * top + 1, 7 * bottom), (True, 1), (False, 1), (top, True)):
        spot = tuple([number if at == word else old for at, old in enumerate(motion[tick][axis])])
        state = tuple([spot if at == axis else old for at, old in enumerate(motion[tick])])
        yield motion[:tick] + (state,) + motion[tick + 1:]
    yield motion[:-1]
    yield motion[1:]
    yield motion + motion[-1:]
    yield motion[:1] + motion
    yield motion[::-1]
    yield list(motion)
    yield tuple([state[:-1] for state in motion])
    yield tuple([state + state[:1] for state in motion])
    yield tuple([state[::-1] for state in motion])
    yield tuple([list(state) for state in motion])
    yield (motion,)


class MotionsAndWorlds(Refusals):
    def drawn_books(self):
        R = random.Random(73)
        rules = ((RULE,), (FLAT, RULE), (RULE, (-9, 9, -3, 3, -2, 1), (0, 4, -1, 1, -1, 1)))
        for turn in range(60):
            axes = rules[turn % 3]
            last = R.choice((0, 1, 2, 3, 5))
            motion = drawn_motion(R, axes, last, R.choice((1, 2, 3)))
            readings = []
            for _ in range(R.randint(0, 7)):
                first = R.randint(0, last)
                low = R.randint(-2, 6)
                readings.append((R.choice("abcd"), R.randrange(len(axes)), first, first, 1, R.randint(-1, 1),
                                 *R.choice(((low, None), (None, low), (low - 2, low + 3)))))
            yield R, Book(axes, last, tuple(readings), turn % 4), motion

    def test_is_motion(self):
        found = []
        for R, book, motion in self.drawn_books():
            self.assertIs(is_motion(book, motion), True)
            for near in near_motions(R, motion):
                found.append(is_motion(book, near))
                self.assertIs(found[-1], strictly_motion(book.rules, near, book.last), near)
        self.assertGreater(found.count(True), 20)
        self.assertGreater(found.count(False), 500)

    def test_is_motion_of_other_values(self):
        book = Book((RULE,), 2, (), 0)
        self.assertIs(is_motion(book, SLOW), True)
        for wrong in NOT_MOTIONS + (book, SLOW[:2], SLOW + run((6, 1)), run((4, 0))):
            self.assertIs(is_motion(book, wrong), False)
        for last in range(13):
            book = Book((RULE,), last, (), 0)
            for many in range(16):
                self.assertIs(is_motion(book, run(*[(4, 0)] * many)), many == last + 1)
        for wrong in NOT_BOOKS:
            self.refused(NoBook, wrong, is_motion, wrong, SLOW)

    def test_a_little_beyond(self):
        book = Book((RULE,), 1, (), 0)
        tiny = (1, 10 ** 9)
        for place, speed, next_place, next_speed, told in (
                ((0, 1), (1, 1), (1, 1), (2, 1), True), ((0, 1), (1, 1), (1, 1), (2 * 10 ** 9 + 1, 10 ** 9), False),
                ((-1, 10 ** 9), (1, 1), (999999999, 10 ** 9), (1, 1), False), (tiny, (1, 1), (1000000001, 10 ** 9), (0,
                    1), True),
                (tiny, (1, 1), (1000000001, 10 ** 9), (-1, 10 ** 9), False), (tiny, (1, 1), (1, 1), (1, 1), False),
                ((9, 1), (1, 1), (10, 1), (1, 1), True), ((9, 1), (1000000001, 10 ** 9), (10000000001, 10 ** 9), (1,
                    1), False),
                ((9, 1), tiny, (9000000001, 10 ** 9), (1000000001, 10 ** 9), True),
                ((9, 1), tiny, (9000000001, 10 ** 9), (1000000002, 10 ** 9), False)):
            self.assertIs(is_motion(book, (((place, speed),), ((next_place, next_speed),))), told)

    def test_is_world(self):
        found = []
        for R, book, motion in self.drawn_books():
            names = book.sources + ("e", "zz")
            wrong = wrong_in(book.readings, motion)
            tries = [one for many in range(4) for one in itertools.permutations(names, many)]
            tries = R.sample(tries, min(len(tries), 25)) + [wrong, wrong[::-1], wrong + wrong, list(wrong),
                                                            wrong + ("a",),
                                                            ("a",) + wrong, wrong[1:], wrong[:-1], set(wrong), None]
            tries = tries + list(itertools.combinations(book.sources, book.wrong)) + [book.sources[:book.wrong + 1]]
            for sources in tries:
                told = is_world(book, (motion, sources))
                found.append(told)
                self.assertIs(told, strictly_world(book, (motion, sources)), sources)
            for near in near_motions(R, motion):
                self.assertIs(is_world(book, (near, wrong)), strictly_world(book, (near, wrong)))
            for value in (motion, (motion,), (motion, wrong, ()), [motion, wrong], (wrong, motion), {motion: wrong}):
                self.assertIs(is_world(book, value), strictly_world(book, value))
        self.assertGreater(found.count(True), 100)
        self.assertGreater(found.count(False), 300)

    def test_is_world_of_other_values(self):
        book = Book((RULE,), 2, (exact("eye", 0, 0, 9, 9), exact("ear")), 1)
        self.assertIs(is_world(book, (SLOW, ("eye",))), True)
        for wrong in NOT_BOOKS:
            self.refused(NoBook, wrong, is_world, wrong, (SLOW, ()))
        for wrong in OTHERS + NOT_MOTIONS + (book, SLOW, (), (SLOW,), SOME):
            self.assertIs(is_world(book, wrong), False)
        for wrong in NOT_MOTIONS:
            self.assertIs(is_world(book, (wrong, ("eye",))), False)
        for wrong in NOT_NAMES + ("eye", "sun", "ear"):
            self.assertIs(is_world(book, (SLOW, (wrong,))), wrong == "eye", wrong)
            self.assertIs(is_world(book, (SLOW, ("eye", wrong))), False)
            self.assertIs(is_world(book, (SLOW, wrong)), False)
        self.assertIs(is_world(book, (SLOW, [("eye")])), False)
        self.assertIs(is_world(Book((RULE,), 2, book.readings, 2), (SLOW, ("ear", "eye"))), True)
        self.assertIs(is_world(Book((RULE,), 2, book.readings, 3), (SLOW, ("ear", "eye"))), True)
        self.assertIs(is_world(Book((RULE,), 2, book.readings, 3), (SLOW, ("eye", "ear"))), False)
        self.assertIs(is_world(Book((RULE,), 2, (), 3), (SLOW, ())), True)
        self.assertIs(is_world(Book((RULE,), 2, (), 3), (SLOW, ("eye",))), False)


if __name__ == "__main__":
    unittest.main()
