"""Section 12: bounds, middles, AREAS."""

import itertools
import random
import unittest
from fractions import Fraction

from allcoursesfit.bounds import bounds, can_be, can_be_in, first_sure, middle, shows_bounds, surely, surely_in
from allcoursesfit.books import Book
from allcoursesfit.errors import BadArea, BadAsk, BadForm, BadTick, NoBook
from allcoursesfit.lots import fits
from allcoursesfit.shapes import hull
from tests.courses import strictly_world
from tests.drawn_books import books, true_book
from tests.elimination import corners, lies, regions
from tests.model import fraction, pair, point, ring, strictly_fraction
from tests.test_books import near_motions
from tests.wrong import NOT_FRACTIONS, NOT_INTEGERS, NOT_SHAPES, OTHERS, SQUARE, Refusals, nested, points
from tests.wrong_books import FLAT, NOT_BOOKS, ONE, RULE, TWO, exact, run, unsure

WEIGHTS = ((1, 0), (0, 1), (-1, 0), (0, -9), (9, -9), (2, 3), (-4, 1))
STANDS = Book(((0, 10, -1, 1, 0, 0),), 2, (("a", 0, 0, 0, 1, 0, 2, 4),), 0)
NOTHING = Book(((0, 10, -1, 1, 0, 0),), 2, (exact("a", 0, 0, 2, 4), exact("a", 0, 0, 5, 6)), 0)


def come_to(form, motion):
    place, speed = pair(motion[form[1]][form[0]])
    return form[2] * place + form[3] * speed


def told_ends(told, form):
    """The least and the greatest of a FORM at its tick, by the model's corners; None if there is no WORLD."""
    axis, tick, p, q = form
    numbers = [p * place + q * speed for choice, row in told if all(spots for rows, spots in row)
               for place, speed in row[axis][1]]
    return (min(numbers), max(numbers)) if numbers else None


def shape_rows(shape):
    """Rows (p, q, bound) that bound just a SHAPE, one with some POINT."""
    pairs = [pair(corner) for corner in shape]
    rows = []
    for (x, v), (far_x, far_v) in ring(pairs):
        p, q = far_v - v, x - far_x
        rows.append((p, q, p * x + q * v))
    if len(pairs) < 3:
        for p, q in ((1, 0), (-1, 0), (0, 1), (0, -1)):
            rows.append((p, q, max(p * x + q * v for x, v in pairs)))
    return rows


def meet(rows, shape):
    """Whether a region and a SHAPE have a POINT in common."""
    return bool(shape) and bool(corners(rows + shape_rows(shape)))


def near_bounds(R, book, told):
    """Values near to what bounds tells."""
    least, greatest, one, other = told
    for number in (least, greatest, fraction(0), fraction(Fraction(*least) + 1), fraction(Fraction(*greatest) - 1),
                   (True, 1), (least[0] * 2, least[1] * 2), list(least), least[0], None, (greatest[0], True)):
        yield (number, greatest, one, other)
        yield (least, number, one, other)
    yield (greatest, least, other, one)
    yield (least, greatest, other, one)
    yield (least, greatest, one, one)
    yield (least, greatest, other, other)
    yield from (told[:3], told + (None,), list(told), told[:2], told[2:], (told,), None, (), True, one)
    for near in near_motions(R, one[0]):
        yield (least, greatest, (near, one[1]), other)
    for near in near_motions(R, other[0]):
        yield (least, greatest, one, (near, other[1]))
    for names in (book.sources, book.sources[:1], one[1] + ("zz",), list(one[1]), None, ()):
        yield (least, greatest, (one[0], names), (other[0], names))


def is_told(book, form, ends, value):
    """Whether bounds may tell value, where the model tells these ends."""
    if type(value) is not tuple or len(value) != 4:
        return False
    for number, world, end in zip(value, value[2:], ends):
        if not strictly_fraction(number) or Fraction(*number) != end or not strictly_world(book, world):
            return False
        if come_to(form, world[0]) != end:
            return False
    return True


class Bounds(Refusals):
    def look(self, book, form, ends):
        """Looks at what is told of a FORM that has these ends, by a model."""
        told = bounds(book, form)
        self.assertEqual(told, bounds(book, form))
        self.assertIs(shows_bounds(book, form, told), True)
        self.assertIs(shows_bounds(book, form, None), ends is None)
        if ends is None:
            self.assertIsNone(told)
            self.assertIsNone(middle(book, form))
            return
        self.assertTrue(is_told(book, form, ends, told), (book.text, form, told))
        half, error = middle(book, form)
        self.assertEqual((half, error), (fraction(sum(ends) / 2), fraction((ends[1] - ends[0]) / 2)))

    def asks_look(self, book, form, ends, later):
        """Looks at ASKS of a FORM near its ends; later tells the ends at its tick, and at those behind it."""
        for number in {Fraction(0), *([] if ends is None else ends)}:
            for off in (Fraction(-1, 10 ** 6), Fraction(0), Fraction(1, 10 ** 6)):
                ask = form + (fraction(number + off),)
                self.assertIs(surely(book, ask), ends is None or ends[0] >= number + off, (book.text, ask))
                self.assertIs(can_be(book, ask), ends is not None and ends[1] >= number + off)
                ticks = [form[1] + at for at, one in enumerate(later) if one is None or one[0] >= number + off]
                self.assertEqual(first_sure(book, ask), ticks[0] if ticks else None)

    def test_drawn_books(self):
        found = []
        for R, book in books(311, 100):
            known = [regions(book, tick) for tick in range(book.last + 1)]
            for tick in range(book.last + 1):
                axis = R.randrange(len(book.rules))
                p, q = R.choice(WEIGHTS)
                later = [told_ends(told, (axis, at, p, q)) for at, told in enumerate(known) if at >= tick]
                form = (axis, tick, p, q)
                self.look(book, form, later[0])
                self.asks_look(book, form, later[0], later)
                found.append(later[0] is None)
        self.assertGreater(found.count(True), 30)
        self.assertGreater(found.count(False), 60)

    def test_lots_of_greater_books(self):
        R = random.Random(312)
        for turn, last in enumerate((0, 12, 6, 12, 9, 0)):
            book, motion = true_book(R, last, 1 + turn % 3, 10, turn % 4, "abcdef")
            for tick in sorted({0, last // 2, last}):
                axis, (p, q) = R.randrange(len(book.rules)), R.choice(WEIGHTS)
                form = (axis, tick, p, q)
                numbers = [p * place + q * speed for wrong, ticks, shapes in fits(book, tick)
                           for place, speed in map(pair, shapes[axis])]
                self.look(book, form, (min(numbers), max(numbers)))
                self.assertTrue(min(numbers) <= come_to(form, motion) <= max(numbers))

    def test_near_values(self):
        found = []
        for R, book in books(313, 60):
            tick = R.randint(0, book.last)
            axis, (p, q) = R.randrange(len(book.rules)), R.choice(WEIGHTS)
            form = (axis, tick, p, q)
            told = bounds(book, form)
            if told is None:
                continue
            ends = (Fraction(*told[0]), Fraction(*told[1]))
            for value in near_bounds(R, book, told):
                found.append(is_told(book, form, ends, value))
                self.assertIs(shows_bounds(book, form, value), found[-1], (book.text, form, value))
        self.assertGreater(found.count(True), 60)
        self.assertGreater(found.count(False), 1500)

    def test_other_worlds_at_the_bounds(self):
        one, other = run((2, -1), (1, -1), (0, -1)), run((4, 1), (5, 1), (6, 1))
        form = (0, 2, 1, 0)
        self.assertIs(shows_bounds(STANDS, form, ((0, 1), (6, 1), (one, ()), (other, ()))), True)
        self.assertIs(shows_bounds(STANDS, form, ((0, 1), (6, 1), (other, ()), (one, ()))), False)
        self.assertIs(shows_bounds(STANDS, form, ((0, 1), (5, 1), (one, ()), (other, ()))), False)
        inner = run((3, 1), (4, 1), (5, 1))
        self.assertIs(shows_bounds(STANDS, form, ((0, 1), (5, 1), (one, ()), (inner, ()))), False)
        self.assertIs(shows_bounds(STANDS, form, ((0, 1), (6, 1), (one, ("a",)), (other, ()))), False)
        # Two MOTIONS by which the speed comes to 1.
        for motion in (other, inner):
            self.assertIs(shows_bounds(STANDS, (0, 1, 0, 1), ((-1, 1), (1, 1), (one, ()), (motion, ()))), True)

    def test_other_values(self):
        for value in OTHERS + (0, ONE, (), (None,) * 4, ((0, 1),) * 4, nested(tuple)):
            self.assertIs(shows_bounds(STANDS, (0, 2, 1, 0), value), False)
            self.assertIs(shows_bounds(NOTHING, (0, 2, 1, 0), value), value is None)

    def test_no_world(self):
        for tick in (0, 1, 2):
            form = (0, tick, 1, 0)
            self.assertIsNone(bounds(NOTHING, form))
            self.assertIsNone(middle(NOTHING, form))
            for number in ((-5, 1), (0, 1), (999, 1)):
                self.assertIs(surely(NOTHING, form + (number,)), True)
                self.assertIs(can_be(NOTHING, form + (number,)), False)
                self.assertEqual(first_sure(NOTHING, form + (number,)), tick)

    def test_one_number_alone(self):
        book = Book((FLAT,), 1, (), 0)
        self.assertEqual(bounds(book, (0, 1, -2, 5)), ((-6, 1), (-6, 1), (run((3, 0), (3, 0)), ()),
                                                      (run((3, 0), (3, 0)), ())))
        self.assertEqual(middle(book, (0, 1, -2, 5)), ((-6, 1), (0, 1)))

    def test_no_estimate_errs_less(self):
        # Whatever is told instead of the middle, in one of both WORLDS it is error away, or more.
        for R, book in books(314, 30):
            form = (0, R.randint(0, book.last)) + R.choice(WEIGHTS)
            told = bounds(book, form)
            if told is not None:
                number, error = [Fraction(*one) for one in middle(book, form)]
                ends = [come_to(form, told[2][0]), come_to(form, told[3][0])]
                self.assertEqual([abs(number - end) for end in ends], [error, error])
                for off in (Fraction(-1, 7), Fraction(3), Fraction(1, 10 ** 9)):
                    self.assertGreater(max(abs(number + off - end) for end in ends), error)

    def test_first_sure(self):
        # The place goes up by 1 at each tick, from 0 to 2 on.
        book = Book(((0, 10, 1, 1, 0, 0),), 5, (exact("a", 0, 0, 0, 2),), 0)
        for tick in range(6):
            for number, first in ((0, 0), (1, 1), (3, 3), (5, 5)):
                self.assertEqual(first_sure(book, (0, tick, 1, 0, (number, 1))), max(first, tick))
            self.assertIsNone(first_sure(book, (0, tick, 1, 0, (6, 1))))
            self.assertEqual(first_sure(book, (0, tick, 1, 0, (9, 2))), 5)
        self.assertEqual(first_sure(book, (0, 0, -1, 0, (-4, 1))), 0)
        # Sure at first, no more later on: the tick of the ASK counts.
        self.assertEqual([first_sure(book, (0, tick, -1, 0, (-4, 1))) for tick in range(6)],
                         [0, 1, 2, None, None, None])

    def test_great_numbers(self):
        great = 3 ** 900
        for off, told in ((-1, True), (0, True), (1, False)):
            ask = (0, 2, 1, 0, (6 * great + off, great) if off else (6, 1))
            self.assertIs(can_be(STANDS, ask), told)
            ask = (0, 2, 1, 0, (off, great) if off else (0, 1))
            self.assertIs(surely(STANDS, ask), told)


class Areas(Refusals):
    def area_look(self, book, tick, told, area):
        """Looks at whether some, and all, WORLDS are in an AREA, by the model's regions."""
        left = [row for choice, row in told if all(spots for rows, spots in row)]
        can = any(all(meet(rows, shape) for (rows, spots), shape in zip(row, area)) for row in left)
        sure = all(shape and all(lies(shape_rows(shape), spot) for spot in spots)
                   for row in left for (rows, spots), shape in zip(row, area))
        self.assertIs(can_be_in(book, tick, area), can, (book.text, tick, area))
        self.assertIs(surely_in(book, tick, area), bool(sure), (book.text, tick, area))
        return can, bool(sure)

    def some_shapes(self, R, book, tick, axis):
        """SHAPES for an AREA: of all sizes, also just those that fit, and their hull."""
        rule = book.rules[axis]
        here = [shapes[axis] for wrong, ticks, shapes in fits(book, tick)]
        found = [(), hull(tuple([point(R.randint(-3, 4), R.randint(-3, 3)) for _ in range(R.randint(1, 5))]))]
        found.append(hull(tuple([point(place, speed) for place in rule[:2] for speed in rule[2:4]])))
        if here:
            corner = R.choice(R.choice(here))
            far = (fraction(Fraction(*corner[0]) + 2), corner[1])
            found += [(corner,), hull((corner, far)), R.choice(here), hull(tuple([spot for shape in here
                                                                                 for spot in shape][:60]))]
        return found

    def test_drawn_books(self):
        found = []
        for R, book in books(315, 90):
            tick = R.randint(0, book.last)
            told = regions(book, tick)
            shapes = [self.some_shapes(R, book, tick, axis) for axis in range(len(book.rules))]
            areas = list(itertools.product(*shapes))
            for area in R.sample(areas, min(len(areas), 8)):
                found.append(self.area_look(book, tick, told, area))
        self.assertGreater(found.count((True, True)), 30)
        self.assertGreater(found.count((True, False)), 60)
        self.assertGreater(found.count((False, False)), 60)
        self.assertGreater(found.count((False, True)), 60)

    def test_points_stretches_rims(self):
        # At tick 1: places from 1 to 5, speeds from -1 to 1, the corners (1, -1), (3, -1), (5, 1), (3, 1).
        for area, told in (((), False), (points((1, -1)), True), (points((1, 0)), False), (points((0, -1)), False),
                           (points((0, -1), (1, -1)), True), (points((0, 0), (1, 0)), False),
                           (points((2, 0), (4, 0)), True), (points((0, 2), (9, 2)), False),
                           (points((5, 1), (9, 1), (9, 2)), True), (points((6, 1), (9, 1), (9, 2)), False)):
            self.assertIs(can_be_in(STANDS, 1, (area,)), told, area)
            self.assertIs(surely_in(STANDS, 1, (area,)), False, area)
        just = points((1, -1), (3, -1), (5, 1), (3, 1))
        self.assertIs(surely_in(STANDS, 1, (just,)), True)
        self.assertIs(surely_in(STANDS, 1, (points((1, -1), (5, -1), (5, 1), (1, 1)),)), True)
        self.assertIs(surely_in(STANDS, 1, (points((1, -1), (3, -1), (5, 1)),)), False)
        near = ((((1000001, 1000000), (-1, 1)),) + just[1:],)
        self.assertIs(surely_in(STANDS, 1, near), False)
        self.assertIs(can_be_in(STANDS, 1, near), True)

    def test_a_single_state(self):
        book = Book((FLAT, FLAT), 0, (), 0)
        spot = points((3, 0))
        self.assertIs(surely_in(book, 0, (spot, spot)), True)
        self.assertIs(surely_in(book, 0, (spot, points((4, 0)))), False)
        self.assertIs(can_be_in(book, 0, (spot, ())), False)
        self.assertIs(can_be_in(book, 0, (points((3, 0), (4, 0)), points((2, 0), (3, 0)))), True)

    def test_no_world(self):
        for area in ((), SQUARE, points((0, 0))):
            self.assertIs(can_be_in(NOTHING, 1, (area,)), False)
            self.assertIs(surely_in(NOTHING, 1, (area,)), True)

    def test_several_choices(self):
        # The eye saw the place 0 at tick 0, or the ear 5: the AREA must hold both.
        book = Book((RULE,), 0, (exact("eye", 0, 0, 0, 0), exact("ear", 0, 0, 5, 5)), 1)
        low, high = points((0, -2), (0, 2)), points((5, -2), (5, 2))
        self.assertEqual([(can_be_in(book, 0, (area,)), surely_in(book, 0, (area,))) for area in (low, high)],
                         [(True, False)] * 2)
        self.assertIs(surely_in(book, 0, (hull(low + high),)), True)


NOT_FORMS = OTHERS + (
    0, 1, (), (0,), (0, 1, 1), (0, 1, 1, 0, 0), (0, 1, 1, 0, (1, 1)), [0, 1, 1, 0], ((0, 1, 1, 0),), "0 1 1 0", ONE,
    {0: 0, 1: 1, 2: 1, 3: 0}, (0, 1, 0, 0), (0, 1, 10, 0), (0, 1, 0, -10), (1, 1, 1, 0), (-1, 1, 1, 0), (3, 1, 1, 0),
    (0, 4, 1, 0), (0, -1, 1, 0), (0, 13, 1, 0),
) + tuple([(wrong, 1, 1, 0) for wrong in NOT_INTEGERS]) + tuple([(0, wrong, 1, 0) for wrong in NOT_INTEGERS]) + tuple(
    [(0, 1, wrong, 1) for wrong in NOT_INTEGERS]) + tuple([(0, 1, 1, wrong) for wrong in NOT_INTEGERS])

NOT_ASKS_OF_ONE = OTHERS + (0, (), (0, 1, 1, 0), (0, 1, 1, 0, 1), (0, 1, 1, 0, (1, 1), 0), [0, 1, 1, 0, (1, 1)],
                            ((0, 1, 1, 0), (1, 1)), ((0, 1, 1, 0, (1, 1)),), (0, 1, 1, 0, 1, 1)) + tuple(
    [wrong + ((1, 1),) for wrong in NOT_FORMS if type(wrong) is tuple and len(wrong) == 4]) + tuple(
    [(0, 1, 1, 0, wrong) for wrong in NOT_FRACTIONS])

NOT_AREAS = OTHERS + (0, (), SQUARE, [SQUARE], ((SQUARE,),), (SQUARE, SQUARE), "0 0; 2 0; 2 2; 0 2", ONE) + tuple(
    [(wrong,) for wrong in NOT_SHAPES])


class Wrong(Refusals):
    def test_book(self):
        for wrong in NOT_BOOKS:
            for form in ((0, 1, 1, 0), None, (0, 1, 1, 0, (1, 1))):
                for call in (bounds, middle, surely, can_be, first_sure):
                    self.refused(NoBook, wrong, call, wrong, form)
                self.refused(NoBook, wrong, shows_bounds, wrong, form, None)
            for tick in (0, None):
                for call in (can_be_in, surely_in):
                    self.refused(NoBook, wrong, call, wrong, tick, tick)

    def test_form(self):
        for book in (ONE, NOTHING):
            for wrong in NOT_FORMS:
                self.refused(BadForm, wrong, bounds, book, wrong)
                self.refused(BadForm, wrong, middle, book, wrong)
                self.refused(BadForm, wrong, shows_bounds, book, wrong, None)
                self.refused(BadForm, wrong, shows_bounds, book, wrong, bounds(ONE, (0, 1, 1, 0)))
        self.assertIsNotNone(middle(TWO, (1, 2, -9, 9)))
        for wrong in ((2, 2, 1, 0), (1, 3, 1, 0)):
            self.refused(BadForm, wrong, middle, TWO, wrong)

    def test_ask(self):
        for wrong in NOT_ASKS_OF_ONE:
            for book in (ONE, NOTHING):
                for call in (surely, can_be, first_sure):
                    self.refused(BadAsk, wrong, call, book, wrong)

    def test_tick_and_area(self):
        for call in (can_be_in, surely_in):
            for wrong in NOT_INTEGERS + (-1, 3, 4, 13, 10 ** 30):
                for area in ((SQUARE,), None):
                    self.refused(BadTick, wrong, call, STANDS, wrong, area)
                    self.refused(BadTick, wrong, call, NOTHING, wrong, area)
            for wrong in NOT_AREAS:
                self.refused(BadArea, wrong, call, STANDS, 1, wrong)
                self.refused(BadArea, wrong, call, NOTHING, 1, wrong)
            for wrong in (SQUARE, (SQUARE,), (SQUARE, SQUARE, SQUARE), (SQUARE, None), [SQUARE, SQUARE]):
                self.refused(BadArea, wrong, call, TWO, 1, wrong)
            self.assertIs(type(call(TWO, 1, (SQUARE, ()))), bool)

    def test_by_name(self):
        form, ask = (0, 2, 1, 0), (0, 2, 1, 0, (1, 2))
        self.assertEqual(bounds(form=form, book=STANDS), bounds(STANDS, form))
        self.assertIs(shows_bounds(value=None, form=form, book=STANDS), False)
        self.assertEqual(middle(form=form, book=STANDS), ((3, 1), (3, 1)))
        self.assertIs(surely(ask=ask, book=STANDS), False)
        self.assertIs(can_be(ask=ask, book=STANDS), True)
        self.assertIsNone(first_sure(ask=ask, book=STANDS))
        self.assertIs(can_be_in(area=(SQUARE,), tick=1, book=STANDS), True)
        self.assertIs(surely_in(area=(SQUARE,), tick=1, book=STANDS), False)

    def test_unsure_readings(self):
        book = Book((RULE,), 3, (unsure("a", 1, 3, 0, 9, 10), exact("b", 0, 0, 4, 4)), 0)
        self.assertEqual(bounds(book, (0, 0, 1, 0))[:2], ((4, 1), (4, 1)))
        told = bounds(book, (0, 2, 0, 1))
        self.assertEqual(told[1], (2, 1))
        self.assertIs(shows_bounds(book, (0, 2, 0, 1), told), True)


if __name__ == "__main__":
    unittest.main()
