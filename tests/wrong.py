"""Values of all kinds that are not what is asked for, and how a refusal is looked at."""

import unittest

from allcoursesfit.errors import BadPoint, FitError


def nested(kind, deep=60):
    """A value that is nested this deep."""
    value = kind(())
    for _ in range(deep - 1):
        value = {0: value} if kind is dict else kind((value,))
    return value


class Refusals(unittest.TestCase):
    """Tests that look at the very error, and at its very value."""

    def refusal(self, call, *told):
        try:
            answer = call(*told)
        except FitError as error:
            return error
        self.fail(f"nothing was raised for {told!r}, but {answer!r} came")

    def refused(self, kind, value, call, *told):
        error = self.refusal(call, *told)
        self.assertIs(type(error), kind, told)
        self.assertIs(error.value, value, told)

    def pair_refused(self, kind, pair, call, *told):
        error = self.refusal(call, *told)
        self.assertIs(type(error), kind, told)
        self.assertIs(type(error.value), tuple, told)
        self.assertEqual(len(error.value), 2, told)
        self.assertIs(error.value[0], pair[0], told)
        self.assertIs(error.value[1], pair[1], told)


OTHERS = (
    None, True, False, "", " ", "0", "0 0", "radar", [], {}, {"value": 1}, {(0, 1): (0, 1)},
    FitError(1), BadPoint(((0, 1), (0, 1))), nested(list), nested(tuple), nested(dict), [((0, 1), (0, 1))],
)

NOT_INTEGERS = OTHERS + ((), (1,), (1, 1), "1", [1], {1: 1}, ((0, 1), (0, 1)))

NOT_FRACTIONS = OTHERS + (
    (), 0, 1, -1, (1,), (1, 2, 3), (1, 1, 1), [1, 2], [0, 1], "1/2",
    (2, 4), (-2, 4), (3, 3), (6, 3), (-3, 3), (0, 2), (0, 3),
    (1, 0), (0, 0), (-1, 0), (2, 0), (1, -1), (1, -2), (-1, -2), (0, -1),
    (True, 1), (False, 1), (1, True), (True, True), (3, True), (0, True),
    (None, 1), (1, None), ("1", 1), (1, "1"), ((1,), 1), (1, [1]), ((1, 1), (1, 1)), ((0, 1), (0, 1)),
    {0: 0, 1: 1}, (FitError(1), 1),
)

NOT_POINTS = OTHERS + (
    (), 0, 1, (1, 2), (0, 1), ((0, 1),), ((0, 1), (0, 1), (0, 1)), (((0, 1), (0, 1)),), [(0, 1), (0, 1)],
    ([0, 1], (0, 1)), ((0, 1), [0, 1]), {(0, 1): (0, 1), (1, 1): (1, 1)}, "0 0", ("0", "0"),
) + tuple([(wrong, (1, 3)) for wrong in NOT_FRACTIONS]) + tuple([((-1, 3), wrong) for wrong in NOT_FRACTIONS])

SOME = ((1, 2), (-3, 1))


def points(*pairs):
    """The tuple of POINTS with these integers as their places and speeds."""
    return tuple([((place, 1), (speed, 1)) for place, speed in pairs])


NOT_POINT_TUPLES = OTHERS + (
    0, 1, (0,), (0, 1), SOME, [SOME], [SOME, SOME], {SOME: SOME}, (SOME, None), (SOME, [SOME]),
    ((SOME,),), ((),), (SOME, ()), points((0, 0)) + (None,), (SOME,) * 61,
    tuple([((place, 1), (0, 1)) for place in range(61)]), list(points((0, 0), (1, 0), (0, 1))),
) + tuple([(wrong,) for wrong in NOT_POINTS]) + tuple([(SOME, wrong, SOME) for wrong in NOT_POINTS])

SQUARE = points((0, 0), (2, 0), (2, 2), (0, 2))
STAR = points((0, 5), (5, 1), (4, 9), (1, 0), (9, 7))


def turns(corners):
    """All tuples of the same corners, in the same sequence, that begin with another one."""
    return tuple([corners[at:] + corners[:at] for at in range(1, len(corners))])


FIVE = points((0, 1), (2, 0), (5, 2), (4, 4), (1, 3))

NOT_SHAPES = OTHERS + (
    0, 1, (0,), (0, 1), SOME, [SOME], [SOME, SOME], {SOME: SOME}, ((SOME,),), ((),),
    list(SQUARE), tuple([list(corner) for corner in SQUARE]), {corner: True for corner in SQUARE},
    (SOME, SOME), (SOME, SOME, SOME), points((2, 0), (0, 0)), points((0, 2), (0, 0)), points((1, 0), (0, 5)),
    points((0, 0), (1, 1), (2, 2)), points((0, 0), (2, 2), (1, 1)), points((0, 0), (2, 2), (0, 0)),
    points((0, 0), (2, 0), (0, 0)), points((0, 0), (0, 1), (0, 2)), points((0, 0), (1, 0), (2, 0), (1, 0)),
    SQUARE[:1] + SQUARE[:0:-1], FIVE[:1] + FIVE[:0:-1], points((0, 0), (0, 2), (2, 0)),
    points((0, 0), (1, 0), (2, 0), (2, 2), (0, 2)), points((0, 0), (2, 0), (2, 1), (2, 2), (0, 2)),
    points((0, 0), (2, 0), (2, 2), (1, 2), (0, 2)), points((0, 0), (2, 0), (2, 2), (0, 2), (0, 1)),
    points((0, 0), (2, 0), (2, 2), (0, 2), (0, 0)), SQUARE[:1] + SQUARE, SQUARE[:2] + SQUARE[1:],
    SQUARE + SQUARE, points((0, 0), (2, 2), (2, 0), (0, 2)), points((0, 0), (2, 0), (0, 2), (2, 2)),
    points((0, 0), (4, 0), (4, 4), (3, 1)), points((0, 0), (2, 1), (4, 0), (2, 4)), STAR,
    SQUARE + (None,), SQUARE + ((),), SQUARE[:3] + ([(0, 1), (2, 1)],), SQUARE[:3] + (((0, 1), (4, 2)),),
    SQUARE[:3] + (((False, 1), (2, 1)),), SQUARE[:3] + (((0, True), (2, 1)),),
) + turns(SQUARE) + turns(FIVE) + turns(points((0, 0), (3, 1), (1, 2))) + tuple(
    [(wrong,) for wrong in NOT_POINTS]) + tuple([(((-1, 1), (0, 1)), wrong) for wrong in NOT_POINTS])

BENT_NUMBERS = (
    "", " ", "+1", "-", "+", "--1", "-+1", "01", "-01", "00", "-0", "+0", "0.0", "1.", "1e3", "1_0", "0x1", "one",
    "None",
    "2/4", "3/1", "0/1", "0/2", "-0/2", "1/0", "0/0", "-1/0", "-2/4", "1/-2", "-1/-2", "1/+2", "1/02", "01/2", "+1/2",
    "1/", "/2", "/", "1//2", "1/2/3", "4/2", "-3/1", "1 /2", "1/ 2", "1/2 ", "1:2", "1\\2", "1\n", "\n1", "1,0",
    "(1, 2)", "1/2\n", "1\n/2", "- 1", "1-", "1-2", "True", "9/3", "6/9", "0/5",
)

NOT_POINT_TEXTS = (
    "", " ", "  ", "\n", "0", "0 ", " 0", "0 0 ", " 0 0", "0  0", "0 0 0", "0\n0", "0 0\n", "\n0 0", "0\n 0", "0 \n0",
    "0,0", "0, 0", "0;0", "0; 0", "0 0;", "0 0; 0 0", "((0, 1), (0, 1))", "a b", "0_0", "00", "0-0",
) + tuple([bent + " 1" for bent in BENT_NUMBERS]) + tuple(["1 " + bent for bent in BENT_NUMBERS])

NOT_SHAPE_TEXTS = tuple([text for text in NOT_POINT_TEXTS if text != ""]) + (
    ";", "; ", "()", "0 0;1 0", "0 0 ; 1 0", "0 0;  1 0", "0 0,1 0", "0 0, 1 0", "0 0; 1 0;", "0 0; 1 0; ", "; 0 0",
    "; 0 0; 1 0", "0 0; ; 1 0", "0 0\n1 0", "0 0;\n1 0", "0 0; 1 0\n", "\n0 0; 1 0", " 0 0; 1 0", "0 0; 1 0 ",
    "0 0; 0 0", "2 0; 0 0", "0 2; 0 1", "0 0; 1 1; 2 2", "0 0; 2 2; 1 1", "0 0; 0 2; 2 0", "2 0; 2 2; 0 0",
    "2 0; 2 2; 0 2; 0 0", "0 2; 0 0; 2 0; 2 2", "0 0; 1 0; 2 0; 2 2; 0 2", "0 0; 2 0; 2 2; 1 2; 0 2",
    "0 0; 2 0; 2 2; 0 2; 0 0", "0 0; 2 0; 2 2; 0 2; 0 1", "0 0; 0 2; 2 2; 2 0", "0 0; 2 2; 2 0; 0 2",
    "0 0; 2 0; 2 2; 0 4/2", "0 0; 2 0; 2 2; 0 02", "0 0; 2 0; 2 2; 0 +2", "0 0; 2 0; 2 2; -0 2", "0 0; 2 0; 2 2; 0 2/1",
    "0 0; 2 0; 2/0 2; 0 2", "0 5; 5 1; 4 9; 1 0; 9 7", "1/2 0; 1/3 5", "1/2 0; 1/2 -1/4",
)

NOT_TEXTS = tuple([value for value in OTHERS if not isinstance(value, str)]) + (
    (), 0, 1, -3, SOME, SQUARE, ["0 0"], ("0 0",), {"0 0": "0 0"}, list("0 0"),
)
