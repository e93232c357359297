"""Section 8: CHOICES, and the lots of STATES."""

import itertools
import random
import unittest

from allcoursesfit.books import Book, is_world
from allcoursesfit.errors import BadAxis, BadChoice, BadState, BadTick, NoBook
from allcoursesfit.lots import choices, fits, has, is_empty, lot, on_from, up_to
from allcoursesfit.motions import ahead, behind, start
from allcoursesfit.shapes import both, clipped, where
from tests.courses import wrong_in
from tests.drawn_books import books, true_book
from tests.elimination import all_choices, can_have, chosen_cuts, regions
from tests.model import pair, point, strictly_shape
from tests.wrong import NOT_INTEGERS, OTHERS, Refusals, nested, points
from tests.wrong_books import (FLAT, NOT_BOOKS, NOT_STATES_OF_ONE, NOT_STATES_OF_TWO, ONE, RULE, SIX, THREE_UNSURE,
                               TWENTY_FOUR, TWO, exact, unsure)

WIDE = (0, 20, -4, 4, -1, 1)


def forward(rule, tick, cuts):
    """up_to as section 8 tells how it is made, by functions of sections 5 and 6."""
    shape = start(rule)
    for at in range(tick + 1):
        if at > 0:
            shape = ahead(rule, shape)
        for when, p, q, low, high in cuts:
            if when == at:
                shape = clipped(shape, p, q, low, high)
    return shape


def backward(rule, tick, last, cuts):
    shape = start(rule)
    for at in range(last, tick - 1, -1):
        if at < last:
            shape = behind(rule, shape)
        for when, p, q, low, high in cuts:
            if when == at:
                shape = clipped(shape, p, q, low, high)
    return shape


class Choices(unittest.TestCase):
    def test_some(self):
        self.assertEqual(choices(Book((RULE,), 3, (), 0)), (((), ()),))
        self.assertEqual(choices(Book((RULE,), 3, (), 3)), (((), ()),))
        self.assertEqual(choices(Book((RULE,), 3, (exact("a"), exact("a", 3)), 3)), ((("a",), (None, None)),))
        self.assertEqual(choices(Book((RULE,), 3, (exact("a"), exact("b", 3)), 1)),
                         ((("a",), (None, 3)), (("b",), (0, None))))
        self.assertEqual(choices(Book((RULE,), 3, (unsure("b", 2, 3), exact("a", 1), unsure("b", 0, 1)), 0)),
                         (((), (2, 1, 0)), ((), (2, 1, 1)), ((), (3, 1, 0)), ((), (3, 1, 1))))
        self.assertEqual(choices(Book((RULE,), 3, (unsure("b", 0, 3), exact("a", 1)), 1)),
                         ((("a",), (0, None)), (("a",), (1, None)), (("a",), (2, None)), (("a",), (3, None)),
                          (("b",), (None, 1))))

    def test_all_of_drawn_books(self):
        for R, book in books(81, 80):
            told = choices(book)
            self.assertEqual(told, tuple(all_choices(book)))
            self.assertEqual(told, tuple(sorted(set(told))))

    def test_many(self):
        for wrong, many in ((0, 1), (1, 6), (2, 15), (3, 20)):
            self.assertEqual(len(choices(Book((RULE,), 0, TWENTY_FOUR, wrong))), many)
        self.assertEqual(len(choices(Book((RULE,), 12, SIX + tuple(
            [unsure("a", first, first + 3) for first in (0, 3, 9)]), 0))), 64)


class Shapes(unittest.TestCase):
    def test_against_the_model(self):
        found = []
        for R, book in books(82, 80):
            for tick in range(book.last + 1):
                for choice, row in regions(book, tick):
                    for axis, (rows, spots) in enumerate(row):
                        told = lot(book, choice, axis, tick)
                        self.assertTrue(strictly_shape(told))
                        self.assertEqual({pair(corner) for corner in told}, spots, (book.text, choice, axis, tick))
                        found.append(len(told))
        for many in range(6):
            self.assertIn(many, found)

    def test_as_it_is_made(self):
        for R, book in books(83, 80):
            for choice in choices(book):
                for axis, rule in enumerate(book.rules):
                    cuts = chosen_cuts(book, choice, axis)
                    for tick in range(book.last + 1):
                        one = forward(rule, tick, cuts)
                        other = backward(rule, tick, book.last, cuts)
                        self.assertEqual(up_to(book, choice, axis, tick), one)
                        self.assertEqual(on_from(book, choice, axis, tick), other)
                        self.assertEqual(lot(book, choice, axis, tick), both(one, other))

    def test_up_to_looks_at_ticks_so_far_alone(self):
        for R, book in books(84, 60):
            for choice in choices(book):
                for tick in range(book.last + 1):
                    kept = [at for at in range(len(book.readings))
                            if choice[1][at] is not None and choice[1][at] <= tick]
                    less = Book(book.rules, tick, tuple(
                        [book.readings[at][:2] + (choice[1][at],) * 2 + book.readings[at][4:] for at in kept]), 0)
                    other = ((), tuple([choice[1][at] for at in kept]))
                    for axis in range(len(book.rules)):
                        self.assertEqual(up_to(book, choice, axis, tick), lot(less, other, axis, tick))

    def test_long_ones(self):
        R = random.Random(85)
        for axes, last in ((1, 12), (2, 12), (3, 12), (3, 8)):
            book, motion = true_book(R, last, axes, 14, 2, "abcdef")
            for tick in range(last + 1):
                told = fits(book, tick)
                self.assertTrue(any(all(where(shape, spot) >= 0 for shape, spot in zip(shapes, motion[tick]))
                                    for _, _, shapes in told))

    def test_tick_0_and_last_0(self):
        book = Book((RULE, FLAT), 0, (("a", 0, 0, 0, 1, 1, 3, 4), ("b", 1, 0, 0, 0, 1, None, -1)), 1)
        first, second = choices(book)
        for call in (up_to, on_from, lot):
            self.assertEqual(call(book, first, 0, 0), start(RULE))
            self.assertEqual(call(book, first, 1, 0), ())
            self.assertEqual(call(book, second, 0, 0), clipped(start(RULE), 1, 1, 3, 4))
            self.assertEqual(call(book, second, 1, 0), points((3, 0)))
        self.assertEqual([told[0] for told in fits(book, 0)], [("b",)])

    def test_a_reading_at_the_end_cuts_all_ticks(self):
        book = Book((WIDE,), 12, (("a", 0, 12, 12, 1, 0, 20, None), ("a", 0, 0, 0, 1, 0, 0, 0)), 0)
        for tick in range(13):
            told = lot(book, choices(book)[0], 0, tick)
            self.assertTrue(strictly_shape(told))
            self.assertEqual(told, both(up_to(book, choices(book)[0], 0, tick), on_from(book, choices(book)[0], 0,
                tick)))
        self.assertEqual(up_to(book, choices(book)[0], 0, 0), points((0, -4), (0, 4)))


class Has(unittest.TestCase):
    def spots(self, R, spots):
        """Corners, what lies between them, and a little beyond."""
        spots = sorted(spots)[:4]
        found = list(spots)
        for one, other in itertools.combinations(spots, 2):
            found.append(((one[0] + other[0]) / 2, (one[1] + other[1]) / 2))
            found.append((2 * one[0] - other[0], 2 * one[1] - other[1]))
            found.append((one[0] + (one[0] - other[0]) / 10 ** 6, one[1] + (one[1] - other[1]) / 10 ** 6))
        found.append((R.randint(-3, 5), R.randint(-2, 3)))
        return [point(place, speed) for place, speed in found]

    def test_against_the_model(self):
        found = []
        for R, book in books(86, 70):
            for tick in range(book.last + 1):
                told = regions(book, tick)
                self.assertEqual([one[:2] for one in fits(book, tick)],
                                 [choice for choice, row in told if all(spots for _, spots in row)])
                for choice, row in told[:4]:
                    lots = [self.spots(R, spots)[:8] for _, spots in row]
                    for state in R.sample(list(itertools.product(*lots)), min(10, len(lots[0]))):
                        found.append(has(book, tick, state))
                        self.assertIs(found[-1], can_have(told, state), (book.text, tick, state))
        self.assertGreater(found.count(True), 100)
        self.assertGreater(found.count(False), 300)

    def test_fits_tells_lots(self):
        for R, book in books(87, 60):
            for tick in range(book.last + 1):
                told = fits(book, tick)
                self.assertIs(type(told), tuple)
                whole = []
                for choice in choices(book):
                    shapes = tuple([lot(book, choice, axis, tick) for axis in range(len(book.rules))])
                    if () not in shapes:
                        whole.append(choice + (shapes,))
                self.assertEqual(told, tuple(whole))
                self.assertIs(is_empty(book), told == ())

    def test_drawn_motions_are_had(self):
        R = random.Random(88)
        for turn in range(60):
            last, axes, wrong = R.choice((0, 1, 2, 4)), 1 + turn % 3, turn % 4
            book, motion = true_book(R, last, axes, R.randint(0, 8), wrong)
            self.assertTrue(is_world(book, (motion, wrong_in(book.readings, motion))))
            self.assertIs(is_empty(book), False)
            for tick in range(last + 1):
                self.assertIs(has(book, tick, motion[tick]), True)

    def test_more_may_be_wrong_than_there_are(self):
        readings = (exact("a", 0, 0, 9, 9), exact("b", 0, 0, 0, 0))
        for wrong, states in ((0, ()), (1, (0, 9)), (2, range(10)), (3, range(10))):
            book = Book((RULE,), 1, readings, wrong)
            for place in range(10):
                self.assertIs(has(book, 0, points((place, 0))), place in states)
            self.assertIs(is_empty(book), wrong == 0)

    def test_rim_corner_and_just_beyond(self):
        book = Book((RULE,), 2, (("a", 0, 1, 1, 1, 0, 3, 5), ("b", 0, 2, 2, 0, 1, 1, None)), 0)
        tiny = 10 ** 9
        for place, speed, told in (
                ((3, 1), (1, 1), True), ((3, 1), (0, 1), True), ((3, 1), (-1, tiny), False), ((5, 1), (2, 1), True),
                ((5, 1), (2 * tiny + 1, tiny), False), ((5 * tiny + 1, tiny), (1, 1), False),
                ((3 * tiny - 1, tiny), (1, 1), False), ((4, 1), (1, 3), True), ((4, 1), (0, 1), True),
                ((4, 1), (-1, 9), False), ((5 * tiny - 1, tiny), (2, 1), True)):
            self.assertIs(has(book, 1, ((place, speed),)), told, (place, speed))

    def test_empty(self):
        for wrong in range(4):
            names = "abcd"
            readings = tuple([exact(name, 0, 0, at, at) for at, name in enumerate(names)])
            self.assertIs(is_empty(Book((RULE,), 0, readings, wrong)), wrong < 3)
            other = tuple([exact(name, 0, at % 2, at, at) for at, name in enumerate(names)])
            self.assertIs(is_empty(Book((RULE, (0, 9, 0, 0, 0, 0)), 0, other, wrong)), wrong < 2)
        self.assertIs(is_empty(Book((RULE,), 0, (), 0)), False)
        self.assertIs(is_empty(Book(((5, 6, 7, 8, 0, 0),), 1, (), 3)), True)
        self.assertIs(is_empty(Book(((5, 6, 7, 8, 0, 0),), 0, (), 3)), False)
        self.assertIs(is_empty(Book((RULE, (5, 6, 7, 8, 0, 0)), 1, (), 0)), True)

    def test_great_numbers(self):
        great = 3 ** 3000
        book = Book((RULE,), 2, (("a", 0, 1, 1, 1, 0, 3, 5),), 0)
        self.assertIs(has(book, 1, (((3 * great + 1, great), (1, great)),)), True)
        self.assertIs(has(book, 1, (((3 * great - 1, great), (1, great)),)), False)

    def test_by_name(self):
        choice = choices(TWO)[0]
        self.assertEqual(lot(tick=1, axis=0, choice=choice, book=TWO), lot(TWO, choice, 0, 1))
        self.assertEqual(up_to(tick=1, axis=0, choice=choice, book=TWO), up_to(TWO, choice, 0, 1))
        self.assertEqual(on_from(tick=1, axis=0, choice=choice, book=TWO), on_from(TWO, choice, 0, 1))
        self.assertEqual(fits(tick=1, book=TWO), fits(TWO, 1))
        self.assertIs(has(state=points((9, 9), (9, 9)), tick=1, book=TWO), False)
        self.assertIs(is_empty(book=TWO), False)
        self.assertEqual(choices(book=TWO), choices(TWO))


class Wrong(Refusals):
    def test_book(self):
        choice = choices(ONE)[0]
        for wrong in NOT_BOOKS:
            for call in (choices, is_empty):
                self.refused(NoBook, wrong, call, wrong)
            for call in (up_to, on_from, lot):
                self.refused(NoBook, wrong, call, wrong, choice, 0, 0)
                self.refused(NoBook, wrong, call, wrong, None, None, None)
            for tick, state in ((0, points((4, 0))), (None, None)):
                self.refused(NoBook, wrong, fits, wrong, tick)
                self.refused(NoBook, wrong, has, wrong, tick, state)

    def test_choice(self):
        book = Book((RULE,), 3, (exact("a", 1), unsure("b", 1, 3), exact("a", 2), exact("c")), 1)
        right = (("c",), (1, 2, 2, None))
        self.assertIn(right, choices(book))
        others = OTHERS + (
            0, (), ((),), right[:1], right + ((),), list(right), [right], (right,), right[0], right[1], book,
            nested(tuple),
            ((), (1, 2, 2, 0)), (("c",), (1, 2, 2, 0)), (("c",), (1, 2, None, None)), (("b",), right[1]),
            (("c",), (1, 2, 2)), (("c",), (1, 2, 2, None, None)), (("c",), (None, 2, 2, None)), (["c"], right[1]),
            (("c",), [1, 2, 2, None]), ("c", right[1]), (("c",), (1, 0, 2, None)), (("c",), (1, 4, 2, None)),
            (("c",), (2, 2, 2, None)), (("c",), (True, 2, 2, None)), (("c",), (1, 2, 2, False)), (("c",), (1, 2, 2,
                ())),
            (("c",), ("1", 2, 2, None)), (("c",), (1, (2,), 2, None)), (("b", "c"), (1, None, 2, None)),
            (("d",), (1, 2, 2, 0)), ((None,), (1, 2, 2, None)), ((True,), (1, 2, 2, None)), (("C",), right[1]),
            ((("c",),), right[1]), ({"c": True}, right[1]), (None, right[1]), (("c",), None), (("c", "c"), right[1]),
            (("c",), {0: 1, 1: 2, 2: 2, 3: None}), (("c",), (1, 1, 1, None)), ("", right[1]))
        for call in (up_to, on_from, lot):
            for wrong in others:
                self.refused(BadChoice, wrong, call, book, wrong, 0, 0)
                self.refused(BadChoice, wrong, call, book, wrong, None, None)
            self.assertTrue(strictly_shape(call(book, right, 0, 0)))

    def test_choice_of_several_sources(self):
        book = Book((RULE,), 3, SIX, 2)
        for wrong in itertools.product("abcdefg", repeat=2):
            ticks = tuple([None if name in wrong else 0 for name in "abcdef"])
            if wrong[0] < wrong[1] < "g":
                self.assertEqual(on_from(book, (wrong, ticks), 0, 0), lot(book, (wrong, ticks), 0, 0))
            else:
                value = (wrong, ticks)
                self.refused(BadChoice, value, lot, book, value, 0, 0)
        book = Book((RULE,), 3, SIX[:1], 2)
        self.assertEqual(lot(book, (("a",), (None,)), 0, 0), lot(Book((RULE,), 3, (), 0), ((), ()), 0, 0))
        value = ((), (0,))
        self.refused(BadChoice, value, lot, book, value, 0, 0)

    def test_axis_and_tick(self):
        choice = choices(ONE)[0]
        axes = NOT_INTEGERS + (-1, 1, 2, 3, 10 ** 30)
        ticks = NOT_INTEGERS + (-1, 4, 5, 13, 10 ** 30)
        for call in (up_to, on_from, lot):
            for wrong in axes:
                self.refused(BadAxis, wrong, call, ONE, choice, wrong, 0)
                self.refused(BadAxis, wrong, call, ONE, choice, wrong, None)
            for wrong in ticks:
                self.refused(BadTick, wrong, call, ONE, choice, 0, wrong)
        for wrong in ticks:
            self.refused(BadTick, wrong, fits, ONE, wrong)
            self.refused(BadTick, wrong, has, ONE, wrong, points((4, 0)))
            self.refused(BadTick, wrong, has, ONE, wrong, None)
        both_axes = Book((RULE, FLAT), 3, (), 0)
        self.assertEqual(lot(both_axes, ((), ()), 1, 3), points((3, 0)))
        self.refused(BadAxis, 2, lot, both_axes, ((), ()), 2, 3)

    def test_state(self):
        for wrong in NOT_STATES_OF_ONE:
            self.refused(BadState, wrong, has, ONE, 0, wrong)
        book = Book((RULE, FLAT), 3, (), 0)
        for wrong in NOT_STATES_OF_TWO:
            self.refused(BadState, wrong, has, book, 3, wrong)
        self.assertIs(has(book, 3, points((4, 0), (3, 0))), True)
        self.assertIs(has(book, 3, points((4, 0), (3, 1))), False)
        empty = Book(((5, 6, 7, 8, 0, 0),), 1, (), 3)
        self.refused(BadState, (), has, empty, 0, ())

    def test_three_unsure(self):
        book = Book((RULE,), 2, THREE_UNSURE, 1)
        self.assertEqual(len(fits(book, 1)), len(choices(book)))


if __name__ == "__main__":
    unittest.main()
