"""Section 15: pictures and courses."""

import random
import unittest

from allcoursesfit.books import Book
from allcoursesfit.errors import BadAxis, BadBounds, BadTick, NoBook
from allcoursesfit.lots import fits
from allcoursesfit.pictures import course, picture
from allcoursesfit.shapes import clipped, where
from tests.drawn_books import books, true_book
from tests.elimination import corners, regions
from tests.model import point
from tests.test_bounds import NOTHING
from tests.wrong import NOT_INTEGERS, OTHERS, Refusals, nested
from tests.wrong_books import FLAT, NOT_BOOKS, ONE, RULE, TWO, exact


def drawn_window(R, low, high):
    """Bounds of a picture near to these."""
    first = R.randint(low - 2, high)
    return (first, first + R.randint(0, 7))


def beyond_sign(rule, place, speed=None):
    """The sign where nothing fits."""
    within = rule[0] <= place <= rule[1] and (speed is None or rule[2] <= speed <= rule[3])
    return "." if within else "-"


def sides_told(rows, place, speed):
    """-1 without a region, 0 on its rim, 1 within."""
    left = [bound - p * place - q * speed for p, q, bound in rows if (p, q) != (0, 0)]
    return -1 if min(left) < 0 else 0 if min(left) == 0 else 1


class Pictures(Refusals):
    def lines(self, text, window, many):
        rows = text.split("\n")
        self.assertEqual(len(rows), many)
        self.assertEqual({len(row) for row in rows}, {window[1] - window[0] + 1})
        return rows

    def picture_look(self, book, axis, tick, places, speeds):
        """Each sign by where, over the SHAPES that fits tells."""
        text = picture(book, axis, tick, places, speeds)
        rows = self.lines(text, places, speeds[1] - speeds[0] + 1)
        shapes = [shapes[axis] for wrong, ticks, shapes in fits(book, tick)]
        for at, row in enumerate(rows):
            for off, sign in enumerate(row):
                place, speed = places[0] + off, speeds[1] - at
                told = max([where(shape, point(place, speed)) for shape in shapes], default=-1)
                other = beyond_sign(book.rules[axis], place, speed)
                self.assertEqual(sign, {1: "#", 0: "o", -1: other}[told], (book.text, axis, tick, place, speed))
        return text

    def course_look(self, book, axis, places):
        """Each sign by cutting the SHAPES that fits tells."""
        text = course(book, axis, places)
        rows = self.lines(text, places, book.last + 1)
        for tick, row in enumerate(rows):
            shapes = [shapes[axis] for wrong, ticks, shapes in fits(book, tick)]
            for off, sign in enumerate(row):
                place = places[0] + off
                some = any(clipped(shape, 1, 0, place, place) for shape in shapes)
                other = beyond_sign(book.rules[axis], place)
                self.assertEqual(sign, "#" if some else other, (book.text, axis, tick, place))
        return text

    def test_against_the_model(self):
        signs = ""
        for R, book in books(341, 60):
            axis, tick = R.randrange(len(book.rules)), R.randint(0, book.last)
            rule = book.rules[axis]
            places, speeds = drawn_window(R, *rule[:2]), drawn_window(R, *rule[2:4])
            told = [[row for choice, row in regions(book, at) if all(spots for rows, spots in row)]
                    for at in range(book.last + 1)]
            text = self.picture_look(book, axis, tick, places, speeds)
            for at, line in enumerate(text.split("\n")):
                for off, sign in enumerate(line):
                    place, speed = places[0] + off, speeds[1] - at
                    ways = [sides_told(row[axis][0], place, speed) for row in told[tick]]
                    self.assertEqual(sign, {1: "#", 0: "o", -1: beyond_sign(rule, place, speed)}[max(ways, default=-1)])
            signs += text
            text = self.course_look(book, axis, places)
            for at, line in enumerate(text.split("\n")):
                for off, sign in enumerate(line):
                    place = places[0] + off
                    bars = [(1, 0, place), (-1, 0, -place)]
                    some = any(corners(row[axis][0] + bars) for row in told[at])
                    self.assertEqual(sign, "#" if some else beyond_sign(rule, place))
            signs += text
        for sign, many in (("#", 200), ("o", 60), (".", 200), ("-", 500)):
            self.assertGreater(signs.count(sign), many, sign)

    def test_greater_books(self):
        R = random.Random(342)
        for turn, last in enumerate((12, 0, 7, 12, 4)):
            book, motion = true_book(R, last, 1 + turn % 3, 9, turn % 4, "abcdef")
            for axis in range(len(book.rules)):
                self.picture_look(book, axis, R.randint(0, last), (-4, 9), (-4, 4))
                self.course_look(book, axis, (-22, 22))

    def test_a_point_a_stretch(self):
        book = Book((FLAT,), 1, (), 0)
        self.assertEqual(picture(book, 0, 1, (2, 4), (-1, 1)), "---\n-o-\n---")
        self.assertEqual(course(book, 0, (2, 4)), "-#-\n-#-")
        book = Book(((0, 4, 0, 0, 0, 0),), 1, (), 0)
        self.assertEqual(picture(book, 0, 0, (-1, 5), (-1, 1)), "-------\n-ooooo-\n-------")
        self.assertEqual(course(book, 0, (-1, 5)), "-#####-\n-#####-")
        book = Book(((0, 4, 0, 4, 0, 0),), 0, (("a", 0, 0, 0, 1, 1, 4, 4),), 0)
        self.assertEqual(picture(book, 0, 0, (0, 4), (0, 4)), "o....\n.o...\n..o..\n...o.\n....o")

    def test_a_square_and_two_of_them(self):
        rules = ((0, 6, 0, 2, 0, 0),)
        book = Book(rules, 0, (exact("a", 0, 0, 1, 3),), 0)
        self.assertEqual(picture(book, 0, 0, (0, 6), (0, 2)), ".ooo...\n.o#o...\n.ooo...")
        # What is rim of the one lies within the other.
        book = Book(rules, 0, (exact("a", 0, 0, 1, 3), exact("b", 0, 0, 2, 5)), 1)
        self.assertEqual(picture(book, 0, 0, (0, 6), (0, 2)), ".ooooo.\n.o###o.\n.ooooo.")
        self.assertEqual(course(book, 0, (-1, 7)), "-.#####.-")
        # Between two lots there is a place that none has.
        book = Book(rules, 0, (exact("a", 0, 0, 1, 2), exact("b", 0, 0, 4, 5)), 1)
        self.assertEqual(course(book, 0, (-1, 7)), "-.##.##.-")

    def test_places_that_are_no_whole_numbers(self):
        # The place is 1/2: no whole one.
        book = Book(((0, 1, 0, 0, 0, 0),), 0, (("a", 0, 0, 0, 2, 0, 1, 1),), 0)
        self.assertEqual(picture(book, 0, 0, (0, 1), (0, 0)), "..")
        self.assertEqual(course(book, 0, (0, 1)), "..")

    def test_more_may_be_wrong_than_there_are(self):
        for wrong, told in ((0, ".........."), (1, "##....####"), (2, "##########"), (3, "##########")):
            book = Book(((0, 9, 0, 0, 0, 0),), 0, (exact("a", 0, 0, 0, 1), exact("b", 0, 0, 6, 9)), wrong)
            self.assertEqual(course(book, 0, (0, 9)), told)
            self.assertEqual(picture(book, 0, 0, (0, 9), (0, 0)), told.replace("#", "o"))

    def test_no_world(self):
        self.assertEqual(picture(NOTHING, 0, 1, (-1, 1), (-2, 1)), "-..\n-..\n-..\n---")
        self.assertEqual(course(NOTHING, 0, (9, 11)), "..-\n..-\n..-")

    def test_the_other_axis_leaves_nothing(self):
        book = Book((RULE, FLAT), 1, (exact("a", 0, 1, 5, 5),), 0)
        self.assertEqual(picture(book, 0, 0, (0, 1), (0, 0)), "..")
        self.assertEqual(course(book, 0, (0, 1)), "..\n..")

    def test_windows(self):
        for low in (-59, -30, 0, 999, -999999999):
            for wide in (0, 1, 59):
                window = (low, low + wide)
                self.picture_look(ONE, 0, 1, window, (0, 1))
                self.picture_look(ONE, 0, 1, (3, 4), window)
                self.course_look(ONE, 0, window)
        self.assertEqual(picture(ONE, 0, 3, (2000, 2001), (0, 1)), "--\n--")
        self.assertEqual(picture(ONE, 0, 3, (3, 4), (-2000, -1999)), "--\n--")
        self.assertEqual(course(ONE, 0, (-5, -5)), "-\n-\n-\n-")

    def test_by_name(self):
        told = picture(speeds=(0, 1), places=(3, 5), tick=1, axis=0, book=ONE)
        self.assertEqual(told, picture(ONE, 0, 1, (3, 5), (0, 1)))
        self.assertEqual(course(places=(3, 5), axis=0, book=ONE), course(ONE, 0, (3, 5)))


NOT_WINDOWS = OTHERS + (
    0, 1, (), (0,), (0, 1, 2), [0, 1], (1, 0), (0, 60), (0, 61), (-60, 0), (0, 10 ** 9), (0, -1), (10 ** 9, 0),
    ((0, 1),), {0: 0, 1: 1}, "0 1", (0, (1, 1)), ((0, 1), 1), nested(tuple), ONE,
) + tuple([(wrong, 1) for wrong in NOT_INTEGERS]) + tuple([(0, wrong) for wrong in NOT_INTEGERS])


class Wrong(Refusals):
    def test_book(self):
        for wrong in NOT_BOOKS:
            for axis, window in ((0, (0, 1)), (None, None)):
                self.refused(NoBook, wrong, picture, wrong, axis, axis, window, window)
                self.refused(NoBook, wrong, course, wrong, axis, window)

    def test_axis(self):
        for wrong in NOT_INTEGERS + (-1, 1, 2, 3, 10 ** 30):
            for tick, window in ((0, (0, 1)), (None, None)):
                self.refused(BadAxis, wrong, picture, ONE, wrong, tick, window, window)
                self.refused(BadAxis, wrong, course, ONE, wrong, window)
        self.refused(BadAxis, 2, course, TWO, 2, (0, 1))

    def test_tick(self):
        for wrong in NOT_INTEGERS + (-1, 4, 12, 13, 10 ** 30):
            for window in ((0, 1), None):
                self.refused(BadTick, wrong, picture, ONE, 0, wrong, window, window)

    def test_windows(self):
        for wrong in NOT_WINDOWS:
            for other in ((0, 1), (1, 0), None):
                self.refused(BadBounds, wrong, picture, ONE, 0, 1, wrong, other)
            self.refused(BadBounds, wrong, picture, ONE, 0, 1, (0, 1), wrong)
            self.refused(BadBounds, wrong, picture, NOTHING, 0, 1, (0, 1), wrong)
            self.refused(BadBounds, wrong, course, ONE, 0, wrong)
            self.refused(BadBounds, wrong, course, NOTHING, 0, wrong)


if __name__ == "__main__":
    unittest.main()
