"""Values of all kinds that are no RULES, STATES, MOTIONS, READINGS, BOOKS: for the tests of parts 1 to 3."""

from allcoursesfit.books import Book
from tests.wrong import NOT_INTEGERS, NOT_POINTS, OTHERS, SOME, points

RULE = (0, 10, -2, 2, -1, 1)
FLAT = (3, 3, 0, 0, 0, 0)

NOT_BOOKS = OTHERS + (0, 1, (), (RULE,), "rule 0 10 -2 2 -1 1\nlast 0\nwrong 0", ((RULE,), 2, (), 0))


def with_one_other(right, at, others):
    """The tuple of copies of a tuple with something else in one place."""
    return tuple([right[:at] + (other,) + right[at + 1:] for other in others])


NOT_RULE = OTHERS + (
    0, 1, (), (0,), RULE[:5], RULE + (0,), list(RULE), (RULE,), [RULE], dict(enumerate(RULE)), "rule 0 10 -2 2 -1 1",
    (1, 0, -2, 2, -1, 1), (0, 10, 2, -2, -1, 1), (0, 10, -2, 2, 1, -1), (-1001, 10, -2, 2, -1, 1),
    (0, 1001, -2, 2, -1, 1), (0, 10, -1001, 2, -1, 1), (0, 10, -2, 1001, -1, 1), (0, 10, -2, 2, -1001, 1),
    (0, 10, -2, 2, -1, 1001), (1001, 1001, -2, 2, -1, 1), (-1001, -1001, -2, 2, -1, 1), (-10, -11, 0, 0, 0, 0),
    tuple([(number, 1) for number in RULE]),
) + with_one_other(RULE, 0, NOT_INTEGERS) + with_one_other(RULE, 3, NOT_INTEGERS) + with_one_other(
    RULE, 5, NOT_INTEGERS)

NOT_RULES = OTHERS + (0, 1, (), RULE, [RULE], (RULE, RULE, RULE, RULE), ((RULE,),), {RULE: RULE}) + tuple(
    [(wrong,) for wrong in NOT_RULE]) + tuple([(RULE, FLAT, wrong) for wrong in NOT_RULE])

NOT_LAST = NOT_INTEGERS + (-1, 13, 14, -12, 10 ** 40, 999999999)
NOT_WRONG = NOT_INTEGERS + (-1, 4, 5, -3, 10 ** 40)

NOT_STATES_OF_ONE = OTHERS + (
    0, 1, (), SOME, [SOME], (SOME, SOME), {SOME: SOME}, ((SOME,),), [[(1, 1), (1, 1)]],
) + tuple([(wrong,) for wrong in NOT_POINTS])

NOT_STATES_OF_TWO = OTHERS + (
    0, 1, (), (SOME,), SOME[:1], [SOME, SOME], (SOME, SOME, SOME), ((SOME,), (SOME,)),
) + tuple([(SOME, wrong) for wrong in NOT_POINTS]) + tuple([(wrong, SOME) for wrong in NOT_POINTS])

READING = ("radar", 0, 3, 5, 1, 0, 2, None)
EXACT = ("ear", 0, 1, 1, 2, -1, -3, 3)

NOT_NAMES = OTHERS[:6] + OTHERS[8:] + (
    0, 1, (), ("ear",), ["ear"], "Ear", "eaR", "9ear", "ear ", " ear", "ear\n", "e ar", "ninesigns", "e_r", "e.r", "_",
    "-", "ear-", "a" * 9, "e,r")

NOT_READING = OTHERS + (
    0, 1, (), (READING,), [READING], list(READING), READING[:7], READING + (1,), dict(enumerate(READING)), SOME,
    "radar 0 3..5 1 0 2..",
) + with_one_other(READING, 0, NOT_NAMES) + tuple(
    [wrong for at in (1, 2, 3, 4, 5) for wrong in with_one_other(READING, at, NOT_INTEGERS)]) + tuple(
    [wrong for at in (6, 7) for wrong in with_one_other(EXACT, at, [one for one in NOT_INTEGERS if one is not None])]
    ) + with_one_other(READING, 1, (-1, 3, 4)) + with_one_other(READING, 2, (-1, 1, 6, 13)) + with_one_other(
    READING, 3, (2, 7, 8, 13)) + with_one_other(READING, 4, (0, 10, -10, 999)) + with_one_other(
    READING, 5, (10, -10)) + with_one_other(READING, 6, (None, 10000, -10000)) + with_one_other(
    EXACT, 7, (-4, 10000)) + with_one_other(EXACT, 6, (4, -10000)) + (
    ("ear", 0, 12, 13, 1, 0, 0, 0), ("ear", 0, 13, 13, 1, 0, 0, 0), ("ear", 0, 9, 13, 1, 0, 0, 0),
    ("ear", 0, -1, 0, 1, 0, 0, 0), ("ear", 0, 8, 12, 1, 0, 0, 0), ("ear", 0, 1, 0, 1, 0, 0, 0),
    ("ear", 0, 1, 1, 0, 0, 0, 0), ("ear", 0, 1, 1, 1, 0, None, None), ("ear", 0, 1, 1, 1, 0, 1, 0),
    ("ear", 0, 1, 1, 1, 0, None, 10000), ("ear", 0, 1, 1, 1, 0, -10000, None), ("ear", 0, 1, 1, 1, 0, (1, 1), (2, 1)),
)


def exact(name, tick=0, axis=0, low=0, high=9):
    """A READING of the place."""
    return (name, axis, tick, tick, 1, 0, low, high)


def unsure(name, first=0, last=1, axis=0, low=0, high=9):
    """A READING of the place at ticks that are not surely known."""
    return (name, axis, first, last, 1, 0, low, high)


SIX = tuple([exact(name) for name in "abcdef"])
TWENTY_FOUR = SIX * 4
THREE_UNSURE = (unsure("a"), exact("b"), unsure("a", 0, 2), unsure("c", 0, 2), exact("a"))

NOT_READINGS = OTHERS + (
    0, 1, READING, [READING], {READING: READING}, ((READING,),), list(SIX), TWENTY_FOUR + SIX[:1], SIX + (exact("g"),),
    SIX[1:] + (exact("g"), exact("a")), THREE_UNSURE + (unsure("b"),), (unsure("a"),) * 4,
) + tuple([(wrong,) for wrong in NOT_READING]) + tuple([(READING, wrong, EXACT) for wrong in NOT_READING])

NOT_READING_TEXTS = (
    "", " ", "\n", "radar", "radar 0", "radar 0 3", "radar 0 3 1", "radar 0 3 1 0", "radar 0 3 1 0 2.. 1",
    " radar 0 3 1 0 2..", "radar 0 3 1 0 2.. ", "radar  0 3 1 0 2..", "radar 0 3 1 0  2..", "radar\n0 3 1 0 2..",
    "radar 0 3 1 0 2..\n", "\nradar 0 3 1 0 2..", "radar,0,3,1,0,2..", "Radar 0 3 1 0 2..", "3radar 0 3 1 0 2..",
    "ninesigns 0 3 1 0 2..", "rad-ar 0 3 1 0 2..", "radar 3 3 1 0 2..", "radar -1 3 1 0 2..", "radar 00 3 1 0 2..",
    "radar +0 3 1 0 2..", "radar -0 3 1 0 2..", "radar x 3 1 0 2..", "radar 0 3..3 1 0 2..", "radar 0 5..3 1 0 2..",
    "radar 0 3..7 1 0 2..", "radar 0 3.. 1 0 2..", "radar 0 ..3 1 0 2..", "radar 0 .. 1 0 2..", "radar 0 3.4 1 0 2..",
    "radar 0 3...4 1 0 2..", "radar 0 3....4 1 0 2..", "radar 0 3..4..5 1 0 2..", "radar 0 03 1 0 2..",
    "radar 0 3..04 1 0 2..", "radar 0 -1..1 1 0 2..", "radar 0 12..13 1 0 2..", "radar 0 13 1 0 2..",
    "radar 0 -3 1 0 2..", "radar 0 3 10 0 2..", "radar 0 3 -10 0 2..", "radar 0 3 1 10 2..", "radar 0 3 0 0 2..",
    "radar 0 3 01 0 2..", "radar 0 3 1 -0 2..", "radar 0 3 1/2 0 2..", "radar 0 3 1.0 0 2..", "radar 0 3 1 0 ..",
    "radar 0 3 1 0 2", "radar 0 3 1 0 .", "radar 0 3 1 0 2.", "radar 0 3 1 0 2.3", "radar 0 3 1 0 2...3",
    "radar 0 3 1 0 2....3", "radar 0 3 1 0 3..2", "radar 0 3 1 0 2..3..", "radar 0 3 1 0 ..2..", "radar 0 3 1 0 02..",
    "radar 0 3 1 0 +2..", "radar 0 3 1 0 2..+3", "radar 0 3 1 0 10000..", "radar 0 3 1 0 ..-10000",
    "radar 0 3 1 0 -0..", "radar 0 3 1 0 None..2", "radar 0 3 1 0 1/2..", "radar 0 3 1 0 2 ..",
    "read radar 0 3 1 0 2..",
    "radar 0 3 1 0 0..0..0", "radar 0 3 1 0 1_0..", "radar 0 3 1 0 2..None", "('radar', 0, 3, 5, 1, 0, 2, None)",
)

ONE = Book((RULE,), 3, (EXACT, ("eye", 0, 1, 3, 0, 1, None, 1)), 1)
TWO = Book((RULE, FLAT), 2, (EXACT,), 0)

NOT_TICKS = NOT_INTEGERS + (-1, 13, 14, 10 ** 40)


def run(*pairs):
    """The MOTION, or near to one, on one axis with these integers as places and speeds."""
    return tuple([(point,) for point in points(*pairs)])


SLOW = run((4, 0), (4, 1), (5, 1))

NOT_MOTIONS = OTHERS + (
    0, 1, (), SOME, list(SLOW), (SLOW,), [SLOW], tuple([list(state) for state in SLOW]), ((),), ((), (), ()),
    run((4, 0), (5, 1)), run((4, 1), (4, 1)), run((4, 0), (4, 2)), run((4, 0), (4, -2)), run((4, 0), (4, 1), (4, 1)),
    run((10, 1), (11, 1)), run((11, 0)), run((-1, 0)), run((4, 3)), run((4, -3)), run((4, 2), (6, 3)),
    run(*[(4, 0)] * 14), run((0, -1), (-1, 0)), run((4, 0), (4, 0), (5, 0)),
    (points((4, 0), (4, 0)),), SLOW[:1] + (points((4, 0), (4, 0)),), SLOW + ((),), SLOW + (None,),
    ((((9, 2), (1, 3)),), (((29, 6), (1, 3)), )) + (((1, 2),),),
    ((((9, 2), (1, 3)),), (((29, 6), (17, 12)),)), ((((9, 2), (1, 3)),), (((28, 6), (1, 3)),)),
    ((((21, 2), (0, 1)),),), ((((1, 2), (9, 4)),),), (((([4, 1]), (0, 1)),),), ((((4, 1), (False, 1)),),),
    ((((4, True), (0, 1)),),), ((((8, 2), (0, 1)),),),
) + tuple([(wrong,) for wrong in NOT_STATES_OF_ONE if wrong != (SOME,)]) + tuple(
    [SLOW[:2] + (wrong,) for wrong in NOT_STATES_OF_ONE])
