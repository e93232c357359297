"""Steps that are kept: the same cuts, in whatever sequence, are the same step."""

import itertools
import unittest

from allcoursesfit.steps import Steps, as_cuts, mark_cuts
from tests.model import point
from tests.wrong_books import FLAT, RULE

CUTS = ((0, 1, 0, 2, None), (0, 1, 0, None, 2), (0, 1, 0, 0, None), (0, 1, 0, None, 0), (0, 1, 0, 0, 0), (0, 1, 0, 1,
    1),
        (0, 1, 0, -1, None), (0, 1, 0, None, -1), (0, 0, 1, 2, 3), (0, 0, 1, None, 3), (0, 0, 1, 1, 3), (1, 1, 0, 2,
            None),
        (0, 0, 1, 0, 3), (0, 0, 1, -1, 3))


class Cuts(unittest.TestCase):
    def test_whatever_sequence(self):
        for many in (1, 2, 3):
            for some in itertools.combinations(CUTS, many):
                told = {as_cuts(list(row)) for row in itertools.permutations(some)}
                self.assertEqual(len(told), 1, some)
                self.assertEqual(sorted(told.pop(), key=str), sorted(some, key=str))
        for one, other in itertools.combinations(CUTS, 2):
            self.assertEqual(len(as_cuts([one, other, one, other, other])), 2)
            self.assertEqual(as_cuts([one, other, one]), as_cuts([other, one]))

    def test_marks_leave_one_point(self):
        for spot in (point(3, 0), point(7, -1)):
            steps = Steps((RULE,))
            self.assertEqual(steps.lot(0, 1, as_cuts(mark_cuts(1, spot)), 2), (spot,))


class Kept(unittest.TestCase):
    def test_each_step_once(self):
        steps = Steps((RULE, FLAT))
        cuts = as_cuts([(0, 1, 0, 2, None), (2, 0, 1, None, 1), (5, 1, 1, 0, 0)])
        steps.forward(0, 2, cuts)
        self.assertEqual(len(steps.kept), 3)
        steps.forward(0, 2, cuts)
        steps.forward(0, 1, cuts[:1])
        steps.forward(0, 2, cuts[:2])
        self.assertEqual(len(steps.kept), 3)
        steps.forward(0, 2, cuts[:1])
        self.assertEqual(len(steps.kept), 4)
        steps.backward(0, 3, cuts, 6)
        self.assertEqual(len(steps.kept), 8)
        steps.backward(0, 4, cuts[2:], 6)
        steps.backward(0, 3, cuts[1:], 6)
        self.assertEqual(len(steps.kept), 8)
        steps.backward(0, 3, cuts, 5)
        self.assertEqual(len(steps.kept), 11)
        steps.forward(1, 0, ())
        self.assertEqual(len(steps.kept), 12)


if __name__ == "__main__":
    unittest.main()
