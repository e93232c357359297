"""Section 5: what comes of shapes."""

import unittest
from fractions import Fraction

from allcoursesfit.points import halfway
from allcoursesfit.shapes import area, both, clipped, ends, hull, read_shape, shape_text, sheared, stretched, where
from tests.model import (fraction, lies_in, lies_within, meets, on_line, pair, point, ring, some_shapes, strictly_shape)
from tests.wrong import FIVE, SOME, SQUARE, points, turns

SHAPES = some_shapes(hull)
FEW = SHAPES[::9] + [(), (SOME,), SQUARE, FIVE, points((0, 0), (0, 2)), points((0, 2), (2, 0)), points((1, 1))]
WEIGHTS = ((1, 0), (0, 1), (-1, 0), (0, -1), (1, 1), (1, -1), (-2, 3), (3, -2), (9, 7))


class Shaped(unittest.TestCase):
    """A told SHAPE is one, and is just the one whose corners are among some POINTS, and holds all of these."""

    def is_shape_of(self, told, spots):
        self.assertTrue(strictly_shape(told), told)
        self.assertTrue({pair(corner) for corner in told} <= set(spots), (told, spots))
        for spot in spots:
            self.assertTrue(lies_in(told, spot), (told, spot))


class Hulls(Shaped):
    def test_all_lots_of_a_grid(self):
        grid = points((0, 0), (0, 1), (0, 2), (1, 0), (1, 1), (1, 2), (2, 0), (2, 1), (2, 2), (3, 1))
        for chosen in range(2 ** len(grid)):
            lot = tuple([spot for at, spot in enumerate(grid) if chosen >> at & 1])
            told = hull(lot)
            self.is_shape_of(told, [pair(spot) for spot in lot])
            self.assertEqual(hull(lot[::-1]), told)

    def test_whatever_sequence_they_came_in(self):
        lot = FIVE + SQUARE + points((3, 2), (2, 1))
        for turned in turns(lot) + turns(lot[::-1]) + (lot[::2] + lot[1::2], lot + lot, lot + lot[::-1]):
            self.assertEqual(hull(turned), points((0, 0), (2, 0), (5, 2), (4, 4), (1, 3), (0, 2)))

    def test_few_points(self):
        self.assertEqual(hull(()), ())
        self.assertEqual(hull((SOME,)), (SOME,))
        self.assertEqual(hull((SOME,) * 60), (SOME,))
        self.assertEqual(hull(points((1, 0), (0, 1))), points((0, 1), (1, 0)))
        self.assertEqual(hull(points((1, 0), (1, -1), (1, 0))), points((1, -1), (1, 0)))

    def test_all_on_one_line(self):
        self.assertEqual(hull(points((2, 2), (0, 0), (1, 1), (3, 3))), points((0, 0), (3, 3)))
        self.assertEqual(hull(points((2, 1), (0, 1), (1, 1))), points((0, 1), (2, 1)))
        self.assertEqual(hull(points((1, 2), (1, 0), (1, 1))), points((1, 0), (1, 2)))
        line = tuple([point(Fraction(at, 3), 1 - Fraction(at, 7)) for at in range(60)])
        self.assertEqual(hull(line[7:] + line[:7]), (line[0], line[-1]))

    def test_none_on_the_line_of_its_neighbours(self):
        self.assertEqual(hull(points((0, 0), (1, 0), (2, 0), (2, 1), (2, 2), (1, 2), (0, 2), (0, 1), (1, 1))), SQUARE)
        self.assertEqual(hull(points((0, 0), (1, 1), (2, 2), (0, 3))), points((0, 0), (2, 2), (0, 3)))

    def test_sixty_corners(self):
        round_about = tuple([point(at, at * at) for at in range(-30, 30)])
        self.assertEqual(hull(round_about[::-1]), round_about)

    def test_by_numbers(self):
        lot = (((1, 2), (0, 1)), ((1, 3), (5, 1)), ((1, 2), (-1, 4)), ((2, 3), (1, 1)))
        self.assertEqual(hull(lot), (lot[1], lot[2], lot[3]))

    def test_of_a_shape_is_the_shape(self):
        for shape in SHAPES:
            self.assertTrue(strictly_shape(shape))
            self.assertEqual(hull(shape), shape)


class Clips(Shaped):
    def is_clip(self, shape, p, q, low, high):
        spots = [pair(corner) for corner in shape]
        for one, other in ring(spots):
            for bound in (low, high):
                if bound is not None:
                    spots = spots + on_line(one, other, p, q, bound)
        left = [spot for spot in spots if (low is None or p * spot[0] + q * spot[1] >= low)
                and (high is None or p * spot[0] + q * spot[1] <= high)]
        self.is_shape_of(clipped(shape, p, q, low, high), left)

    def test_all_bounds(self):
        bounds = (None, -2, -1, 0, 1, 3)
        for shape in FEW:
            for p, q in WEIGHTS:
                for low in bounds:
                    for high in bounds:
                        if low is None or high is None or low <= high:
                            self.is_clip(shape, p, q, low, high)

    def test_no_bound(self):
        for shape in SHAPES:
            self.assertEqual(clipped(shape, 2, -1, None, None), shape)
            self.assertEqual(clipped(shape, 2, -1, -99, 99), shape)

    def test_on_the_rim(self):
        self.assertEqual(clipped(SQUARE, 1, 0, 0, 2), SQUARE)
        self.assertEqual(clipped(SQUARE, 1, 0, 2, 2), points((2, 0), (2, 2)))
        self.assertEqual(clipped(SQUARE, 1, 0, None, 0), points((0, 0), (0, 2)))
        self.assertEqual(clipped(SQUARE, 1, 1, 4, None), points((2, 2)))
        self.assertEqual(clipped(SQUARE, -1, 1, 2, 2), points((0, 2)))
        self.assertEqual(clipped(SQUARE, 1, -1, 0, 0), points((0, 0), (2, 2)))
        self.assertEqual(clipped(SQUARE, 1, 1, 5, None), ())
        self.assertEqual(clipped(SQUARE, 1, 1, None, -1), ())

    def test_low_equal_to_high(self):
        self.assertEqual(clipped(SQUARE, 3, 0, 1, 1), (((1, 3), (0, 1)), ((1, 3), (2, 1))))
        self.assertEqual(clipped(SQUARE, 1, 1, 1, 1), points((0, 1), (1, 0)))
        self.assertEqual(clipped(points((0, 0), (2, 1)), 1, 0, 1, 1), (((1, 1), (1, 2)),))
        self.assertEqual(clipped((SOME,), 2, 0, 1, 1), (SOME,))

    def test_least_corner_first(self):
        self.assertEqual(clipped(SQUARE, 1, 1, 1, None), points((0, 1), (1, 0), (2, 0), (2, 2), (0, 2)))
        self.assertEqual(clipped(SQUARE, 1, 1, 1, 3), points((0, 1), (1, 0), (2, 0), (2, 1), (1, 2), (0, 2)))

    def test_few_points(self):
        self.assertEqual(clipped((), 1, 0, 0, 0), ())
        self.assertEqual(clipped((SOME,), 0, 1, -3, None), (SOME,))
        self.assertEqual(clipped((SOME,), 0, 1, -2, None), ())
        self.assertEqual(clipped(points((0, 0), (4, 2)), 0, 2, 1, 2), (((1, 1), (1, 2)), ((2, 1), (1, 1))))


class Moves(Shaped):
    def test_sheared(self):
        for shape in SHAPES:
            for by in (1, -1):
                spots = [(place + by * speed, speed) for place, speed in [pair(corner) for corner in shape]]
                told = sheared(shape, by)
                self.assertTrue(strictly_shape(told), told)
                self.assertEqual(sorted([pair(corner) for corner in told]), sorted(spots))

    def test_sheared_and_back(self):
        for shape in SHAPES + [SQUARE, FIVE, (SOME,), ()]:
            self.assertEqual(sheared(sheared(shape, 1), -1), shape)
            self.assertEqual(sheared(sheared(shape, -1), 1), shape)
            self.assertEqual(area(sheared(shape, 1)), area(shape))

    def test_sheared_ways(self):
        self.assertEqual(sheared(points((0, -1), (0, 1)), 1), points((-1, -1), (1, 1)))
        self.assertEqual(sheared(points((0, -1), (0, 1)), -1), points((-1, 1), (1, -1)))
        self.assertEqual(sheared((SOME,), 1), (((-5, 2), (-3, 1)),))
        self.assertEqual(sheared((SOME,), -1), (((7, 2), (-3, 1)),))
        self.assertEqual(sheared((), 1), ())

    def test_stretched(self):
        for shape in SHAPES[::4]:
            for low, high in ((0, 0), (-1, 1), (1, 3), (-5, -2), (2, 2), (-1, 0), (0, 4)):
                spots = [pair(corner) for corner in shape]
                moved = [(place, speed + by) for place, speed in spots for by in (low, high)]
                self.is_shape_of(stretched(shape, low, high), moved)

    def test_stretched_ways(self):
        self.assertEqual(stretched((SOME,), -1, 2), (((1, 2), (-4, 1)), ((1, 2), (-1, 1))))
        self.assertEqual(stretched((SOME,), 3, 3), (((1, 2), (0, 1)),))
        self.assertEqual(stretched((), -1, 1), ())
        self.assertEqual(stretched(points((0, 0), (0, 2)), -1, 1), points((0, -1), (0, 3)))
        self.assertEqual(stretched(points((0, 0), (2, 0)), 0, 2), SQUARE)
        self.assertEqual(stretched(SQUARE, 5, 5), points((0, 5), (2, 5), (2, 7), (0, 7)))
        self.assertEqual(stretched(SQUARE, 0, 0), SQUARE)
        self.assertEqual(stretched(SQUARE, -1000, 1000), points((0, -1000), (2, -1000), (2, 1002), (0, 1002)))


class Boths(Shaped):
    def is_both(self, one, other):
        near, far = [pair(corner) for corner in one], [pair(corner) for corner in other]
        spots = [spot for spot in near if lies_in(other, spot)] + [spot for spot in far if lies_in(one, spot)]
        for low, high in ring(near):
            for left, right in ring(far):
                spots = spots + meets(low, high, left, right)
        told = both(one, other)
        self.is_shape_of(told, spots)
        self.assertEqual(both(other, one), told)

    def test_many(self):
        for one in FEW:
            for other in FEW:
                self.is_both(one, other)

    def test_with_itself_and_with_none(self):
        for shape in SHAPES:
            self.assertEqual(both(shape, shape), shape)
            self.assertEqual(both(shape, ()), ())
            self.assertEqual(both((), shape), ())

    def test_where_they_touch(self):
        self.assertEqual(both(SQUARE, points((2, 0), (4, 0), (4, 2), (2, 2))), points((2, 0), (2, 2)))
        self.assertEqual(both(SQUARE, points((2, 2), (4, 2), (4, 4), (2, 4))), points((2, 2)))
        self.assertEqual(both(SQUARE, points((2, 1), (4, 0), (4, 2))), points((2, 1)))
        self.assertEqual(both(SQUARE, points((3, 0), (4, 0), (4, 2))), ())

    def test_stretches(self):
        for one, other, told in (
                (((0, 0), (2, 2)), ((0, 2), (2, 0)), ((1, 1),)), (((0, 0), (2, 2)), ((1, 1), (3, 3)), ((1, 1), (2, 2))),
                (((0, 0), (2, 2)), ((2, 2), (3, 3)), ((2, 2),)), (((0, 0), (1, 1)), ((2, 2), (3, 3)), ()),
                (((0, 0), (1, 1)), ((0, 1), (1, 2)), ()), (((0, 0), (0, 3)), ((0, 1), (0, 2)), ((0, 1), (0, 2))),
                (((0, 0), (0, 1)), ((0, 2), (0, 3)), ()), (((0, 3), (3, 0)), ((1, 2), (2, 1)), ((1, 2), (2, 1))),
                (((0, 3), (3, 0)), ((0, 0), (1, 1)), ()), (((0, 0), (4, 0)), ((1, 0), (2, 0)), ((1, 0), (2, 0)))):
            self.assertEqual(both(points(*one), points(*other)), points(*told))
            self.assertEqual(both(points(*other), points(*one)), points(*told))

    def test_one_point(self):
        for shape in (SQUARE, FIVE, points((0, 0), (2, 2)), points((1, 1))):
            self.assertEqual(both(shape, points((1, 1))), points((1, 1)) if lies_in(shape, (1, 1)) else ())
            self.assertEqual(both(points((1, 1)), shape), points((1, 1)) if lies_in(shape, (1, 1)) else ())
            self.assertEqual(both(shape, points((9, 1))), ())
        for spot in ((0, 1), (2, 1), (1, 0), (1, 2)):
            self.assertEqual(both(points((1, 1)), points(spot)), ())


class Wheres(Shaped):
    def test_a_grid(self):
        for shape in SHAPES[::3]:
            for place in range(-4, 5):
                for speed in range(-3, 4):
                    spot = (Fraction(place, 3), Fraction(speed, 2))
                    told = -1 if not lies_in(shape, spot) else 1 if lies_within(shape, spot) else 0
                    self.assertEqual(where(shape, point(*spot)), told)

    def test_rims(self):
        for shape in SHAPES + [SQUARE, FIVE]:
            for corner, other in zip(shape, shape[1:] + shape[:1]):
                self.assertEqual(where(shape, corner), 0)
                self.assertEqual(where(shape, halfway(corner, other)), 0)
            if len(shape) > 2:
                self.assertEqual(where(shape, halfway(shape[0], halfway(shape[1], shape[2]))), 1)

    def test_on_the_line_of_a_side(self):
        for place, speed in ((3, 0), (-1, 0), (2, 3), (2, -1), (3, 2), (-1, 2), (0, 3), (0, -1)):
            self.assertEqual(where(SQUARE, points((place, speed))[0]), -1)
        for place, speed in ((-1, -1), (3, 3), (1, 2), (2, 1)):
            self.assertEqual(where(points((0, 0), (2, 2)), points((place, speed))[0]), -1)
        for place, speed in ((0, -1), (0, 3), (1, 1), (-1, 1)):
            self.assertEqual(where(points((0, 0), (0, 2)), points((place, speed))[0]), -1)

    def test_few_points(self):
        self.assertEqual(where((), SOME), -1)
        self.assertEqual(where((SOME,), SOME), 0)
        self.assertEqual(where((SOME,), ((1, 2), (3, 1))), -1)
        self.assertEqual(where((SOME,), ((1, 3), (-3, 1))), -1)
        self.assertEqual(where(points((0, 0), (2, 2)), ((1, 3), (1, 3))), 0)
        self.assertEqual(where(points((0, 0), (0, 2)), points((0, 1))[0]), 0)

    def test_kinds(self):
        told = [where(SQUARE, points(spot)[0]) for spot in ((1, 1), (2, 2), (3, 3))] + [where((), SOME)]
        self.assertEqual([type(one) for one in told], [int, int, int, int])


class Ends(Shaped):
    def test_many(self):
        for shape in SHAPES:
            for p, q in WEIGHTS:
                sums = [p * place + q * speed for place, speed in [pair(corner) for corner in shape]]
                told = None
                if sums:
                    told = tuple([(fraction(end), shape[sums.index(end)]) for end in (min(sums), max(sums))])
                self.assertEqual(ends(shape, p, q), told)

    def test_first_corner(self):
        a, b, c, d = SQUARE
        self.assertEqual(ends(SQUARE, 1, 0), (((0, 1), a), ((2, 1), b)))
        self.assertEqual(ends(SQUARE, -1, 0), (((-2, 1), b), ((0, 1), a)))
        self.assertEqual(ends(SQUARE, 0, 1), (((0, 1), a), ((2, 1), c)))
        self.assertEqual(ends(SQUARE, 0, -2), (((-4, 1), c), ((0, 1), a)))
        self.assertEqual(ends((a, c), 1, -1), (((0, 1), a), ((0, 1), a)))
        self.assertEqual(ends((SOME,), 2, 1), (((-2, 1), SOME), ((-2, 1), SOME)))

    def test_none(self):
        self.assertIsNone(ends((), 1, 0))

    def test_kinds(self):
        told = ends(SQUARE, 1, 1)
        self.assertEqual([type(told), type(told[0]), type(told[1]), type(told[0][0])], [tuple] * 4)


class Areas(Shaped):
    def test_many(self):
        for shape in SHAPES:
            spots = [pair(corner) for corner in shape]
            doubled = sum([one[0] * other[1] - one[1] * other[0] for one, other in ring(spots)])
            self.assertEqual(area(shape), fraction(Fraction(doubled) / 2))
            self.assertEqual(area(shape)[0] > 0, len(shape) > 2)

    def test_some(self):
        for shape, told in (((), (0, 1)), ((SOME,), (0, 1)), (points((0, 0), (5, 3)), (0, 1)), (SQUARE, (4, 1)),
                            (points((0, 0), (1, 0), (0, 1)), (1, 2)), (points((-3, -2), (0, 0), (1, 5)), (13, 2)),
                            ((((0, 1), (0, 1)), ((1, 2), (0, 1)), ((0, 1), (1, 3))), (1, 12)), (FIVE, (23, 2))):
            self.assertEqual(area(shape), told)


class Texts(Shaped):
    def test_there_and_back(self):
        for shape in SHAPES:
            text = "; ".join([f"{place} {speed}" for place, speed in [pair(corner) for corner in shape]])
            self.assertEqual(shape_text(shape), text)
            self.assertEqual(read_shape(text), shape)

    def test_some(self):
        for text, shape in (("", ()), ("1/2 -3", (SOME,)), ("0 0; 2 2", points((0, 0), (2, 2))),
                            ("0 0; 2 0; 2 2; 0 2", SQUARE), ("-1/2 0; -1/3 0", (((-1, 2), (0, 1)), ((-1, 3), (0, 1))))):
            self.assertEqual(shape_text(shape), text)
            self.assertEqual(read_shape(text), shape)


class GreatNumbers(Shaped):
    """What was told may be handed in again, however great its numbers are."""

    def test_drawn_in(self):
        far = points((0, 7))[0]
        many = 5000
        for _ in range(many):
            far = halfway(far, SQUARE[1])
        small = 2 ** many
        shape = hull((SQUARE[0], far, ((0, 1), (1, small))))
        self.assertEqual(shape, (SQUARE[0], ((small - 1, small // 2), (7, small)), ((0, 1), (1, small))))
        self.assertEqual(read_shape(shape_text(shape)), shape)
        self.assertEqual(area(shape), fraction(Fraction(small - 1, small // 2) / small / 2))
        self.assertEqual(sheared(sheared(shape, 1), -1), shape)
        self.assertEqual(both(shape, shape), shape)
        self.assertEqual([where(shape, corner) for corner in shape + SQUARE[1:2]], [0, 0, 0, -1])
        self.assertEqual(where(shape, halfway(shape[0], halfway(shape[1], shape[2]))), 1)
        self.assertEqual(ends(shape, 0, 1), (((0, 1), SQUARE[0]), ((7, small), shape[1])))
        self.assertEqual(clipped(shape, 1, 0, None, 0), (SQUARE[0], shape[2]))

    def test_cut_many_times(self):
        shape = points((-9, -5), (8, -7), (9, 6), (-7, 9))
        for number in range(1, 16):
            turned = sheared(shape, (-1) ** number)
            least, greatest = [Fraction(*end) for end, corner in ends(turned, number, -7)]
            cut = clipped(turned, number, -7, (least * 3 + greatest) // 4, None)
            inner = hull(tuple([halfway(one, other) for one, other in zip(cut, cut[1:] + cut[:1])]))
            self.assertTrue(strictly_shape(cut) and strictly_shape(inner))
            self.assertEqual(both(inner, cut), inner)
            self.assertEqual(both(turned, cut), cut)
            self.assertEqual(read_shape(shape_text(inner)), inner)
            self.assertEqual([where(inner, corner) for corner in inner], [0] * len(inner))
            self.assertGreater(Fraction(*area(cut)), Fraction(*area(inner)))
            shape = stretched(inner, -1, 2)
        self.assertGreater(len(shape_text(shape)), 20000)

    def test_more_than_sixty_corners(self):
        shape = tuple([point(at, at * at) for at in range(-40, 40)])
        self.assertEqual(read_shape(shape_text(shape)), shape)
        self.assertEqual(stretched(shape, 0, 0), shape)
        self.assertEqual(ends(shape, 0, 1), (((0, 1), shape[40]), ((1600, 1), shape[0])))
        self.assertEqual(clipped(shape, 1, 0, 0, None)[0], shape[40])


if __name__ == "__main__":
    unittest.main()
