"""Section 13: ASKS, PLANS, and what they leave."""

import itertools
import random
import unittest
from fractions import Fraction

from allcoursesfit.asks import answers, best_asks, least_left, plan, shows_plan, worth
from allcoursesfit.books import Book
from allcoursesfit.bounds import bounds, middle
from allcoursesfit.errors import BadAsk, BadAsks, BadForm, BadNumber, BadPlan, NoBook
from tests.drawn_books import books, small_book, true_book
from tests.elimination import all_choices, chosen_cuts, corners, region
from tests.model import fraction
from tests.strictness import can_be
from tests.test_bounds import NOT_ASKS_OF_ONE, NOT_FORMS, NOTHING, STANDS, WEIGHTS
from tests.wrong import NOT_INTEGERS, OTHERS, Refusals, nested, points
from tests.wrong_books import FLAT, NOT_BOOKS, ONE, RULE, exact, unsure

GOAL = (0, 2, 1, 0)
ASKS = ((0, 1, 1, 0, (3, 1)), (0, 0, 0, 1, (0, 1)), (0, 2, 1, 0, (1, 1)))


class Left:
    """What answers leave, by going through all CHOICES with rows of all numbers, strict ones where it is no."""

    def __init__(self, book, asks, goal):
        self.book, self.asks, self.goal = book, asks, goal
        self.known = {}

    def axis_told(self, axis, cuts, strict):
        """None if no MOTION of this axis is left, otherwise the ends of the goal, or (0, 0) on another axis."""
        key = (axis, frozenset(cuts), frozenset(strict))
        if key not in self.known:
            self.known[key] = self.reckoned(axis, sorted(set(cuts), key=str), strict)
        return self.known[key]

    def reckoned(self, axis, cuts, strict):
        rule, last = self.book.rules[axis], self.book.last
        if not can_be(rule, last, cuts, strict):
            return None
        if axis != self.goal[0]:
            return (0, 0)
        tick, p, q = self.goal[1:]
        closed = cuts + [(at, a, b, low, high) for at, a, b, low, high in strict]
        numbers = [p * place + q * speed for place, speed in corners(region(rule, last, tick, closed))]
        return (min(numbers), max(numbers))

    def ends(self, given):
        """The (low, high) of the goal, given a list of pairs (number, yes); None if nothing is left."""
        key = ("given", frozenset(given))
        if key not in self.known:
            self.known[key] = self.ends_anew(given)
        return self.known[key]

    def ends_anew(self, given):
        found = []
        for choice in all_choices(self.book):
            told = []
            for axis in range(len(self.book.rules)):
                cuts, strict = list(chosen_cuts(self.book, choice, axis)), []
                for number, yes in given:
                    other, tick, p, q, bound = self.asks[number]
                    if other == axis and yes:
                        cuts.append((tick, p, q, Fraction(*bound), None))
                    elif other == axis:
                        strict.append((tick, p, q, None, Fraction(*bound)))
                told.append(self.axis_told(axis, cuts, strict))
            if None not in told:
                found.append(told[self.goal[0]])
        return (min(low for low, high in found), max(high for low, high in found)) if found else None

    def worth(self, some, given=()):
        """The greatest error at the ends of a PLAN; -1 if nothing is left."""
        if some is None:
            ends = self.ends(given)
            return -1 if ends is None else (ends[1] - ends[0]) / 2
        number, yes, no = some
        return max(self.worth(yes, given + ((number, True),)), self.worth(no, given + ((number, False),)))


def plans(many, depth):
    """All PLANS of so many ASKS, of this depth or less."""
    if depth == 0:
        return [None]
    below = plans(many, depth - 1)
    return [None] + [(number, yes, no) for number in range(many) for yes in below for no in below]


def depth_of(some):
    return 0 if some is None else 1 + max(depth_of(some[1]), depth_of(some[2]))


def drawn_ask(R, book, told):
    """An ASK, often of a number that is the bound of what it asks, or a little beside it."""
    form = (R.randrange(len(book.rules)), R.randint(0, book.last)) + R.choice(WEIGHTS)
    ends = told(form)
    number = Fraction(R.randint(-12, 12), 2)
    if ends is not None and R.random() < 0.8:
        low, high = Fraction(*ends[0]), Fraction(*ends[1])
        number = R.choice((low, high, (low + high) / 2, low + (high - low) / 3, low - Fraction(1, 1000),
                           high + Fraction(1, 1000), low + Fraction(1, 1000)))
    return form + (fraction(number),)


def drawn_inquiry(R, book, many):
    """ASKS and a goal for a book."""
    def told(form):
        found = bounds(book, form)
        return found if found is None else found[:2]
    goal = (R.randrange(len(book.rules)), R.randint(0, book.last)) + R.choice(WEIGHTS)
    return tuple([drawn_ask(R, book, told) for _ in range(many)]), goal


class AgainstTheModel(Refusals):
    def answers_look(self, book, asks, goal, model):
        for number, ask in enumerate(asks):
            told = answers(book, ask, goal)
            ends = [model.ends([(number, yes)]) for yes in (True, False)]
            self.assertEqual(told, tuple([one and tuple(map(fraction, one)) for one in ends]), (book.text, ask, goal))
            self.assertIs(type(told), tuple)

    def test_answers_worth_and_the_best(self):
        found = []
        for R, book in books(321, 70):
            if R.random() < 0.5 and middle(book, (0, 0, 1, 0)) is None:
                continue
            asks, goal = drawn_inquiry(R, book, R.choice((1, 2, 2, 3)))
            model = Left(book, asks, goal)
            self.answers_look(book, asks, goal, model)
            worths = {some: model.worth(some) for some in plans(len(asks), 2)}
            for some, number in worths.items():
                self.assertEqual(worth(book, asks, goal, some), None if number < 0 else fraction(number),
                                 (book.text, asks, goal, some))
            for depth in (0, 1, 2):
                here = [some for some in worths if depth_of(some) <= depth]
                least = min(worths[some] for some in here)
                self.assertEqual(least_left(book, asks, goal, depth), None if least < 0 else fraction(least))
                told = plan(book, asks, goal, depth)
                self.assertIn(told, here)
                self.assertEqual(worths[told], least)
                for some in worths if depth < 2 else R.sample(here, min(len(here), 12)):
                    may = some is None if least < 0 else some in here and worths[some] == least
                    self.assertIs(shows_plan(book, asks, goal, depth, some), may, (book.text, asks, goal, some))
            least = min(worths[some] for some in worths if depth_of(some) <= 1)
            best = tuple([number for number in range(len(asks)) if worths[(number, None, None)] == least])
            self.assertEqual(best_asks(book, asks, goal), () if least == worths[None] else best)
            found.append((least < 0, least == worths[None]))
        self.assertGreater(found.count((False, False)), 15)
        self.assertGreater(found.count((False, True)), 8)
        self.assertGreater(found.count((True, True)), 4)

    def test_books_of_three_axes(self):
        R = random.Random(322)
        for turn in range(6):
            book, motion = true_book(R, 2, 3, 5, turn % 3, "abc")
            asks, goal = drawn_inquiry(R, book, 2)
            model = Left(book, asks, goal)
            self.answers_look(book, asks, goal, model)
            for some in plans(2, 1) + [(0, (1, None, None), (0, None, None))]:
                self.assertEqual(worth(book, asks, goal, some), fraction(model.worth(some)))

    def test_deeper_plans(self):
        R = random.Random(323)
        for turn in range(12):
            book, motion = true_book(R, 3, 1, 3, turn % 2, "ab", 4)
            asks, goal = drawn_inquiry(R, book, 4)
            model = Left(book, asks, goal)
            for depth in (3, 4, 6):
                some = None
                for _ in range(depth):
                    some = (R.randrange(4), R.choice((some, None)), some)
                self.assertEqual(worth(book, asks, goal, some), fraction(model.worth(some)))


    def test_many_choices(self):
        # What is found of some CHOICES may hide others, but never for what is asked next.
        R = random.Random(325)
        for turn in range(40):
            names = "abcd" if turn % 2 else "abcde"
            if turn % 4 < 3:
                book, motion = true_book(R, 1 + turn % 2, 1, R.randint(5, 8), 2, names, R.randint(0, 2))
            else:
                book = small_book(R, 1, 1, 6, 3, names)
            asks, goal = drawn_inquiry(R, book, 3)
            model = Left(book, asks, goal)
            self.answers_look(book, asks, goal, model)
            some = plans(3, 2)
            for told in R.sample(some, 15) + [(0, pair[0], pair[1]) for pair in zip(R.sample(some, 4), R.sample(some, 4))]:
                number = model.worth(told)
                self.assertEqual(worth(book, asks, goal, told), None if number < 0 else fraction(number),
                                 (book.text, asks, goal, told))
            least = min(model.worth(told) for told in some)
            self.assertEqual(least_left(book, asks, goal, 2), None if least < 0 else fraction(least))


class Edges(Refusals):
    def test_a_yes_lets_its_bound_in_and_a_no_does_not(self):
        # The place at tick 2 is from 0 to 6.
        for number, told in (((0, 1), (((0, 1), (6, 1)), None)),
                             ((1, 1000), (((1, 1000), (6, 1)), ((0, 1), (1, 1000)))),
                             ((-1, 1000), (((0, 1), (6, 1)), None)),
                             ((6, 1), (((6, 1), (6, 1)), ((0, 1), (6, 1)))),
                             ((5999, 1000), (((5999, 1000), (6, 1)), ((0, 1), (5999, 1000)))),
                             ((6001, 1000), (None, ((0, 1), (6, 1))))):
            self.assertEqual(answers(STANDS, GOAL + (number,), GOAL), told)

    def test_two_that_leave_nothing_together(self):
        # The place is 6 or more, and less than 6: the second ASK, along one way, leaves nothing on one side.
        asks = (GOAL + ((6, 1),), GOAL + ((3, 1),))
        self.assertEqual(worth(STANDS, asks, GOAL, (0, None, None)), (3, 1))
        self.assertEqual(worth(STANDS, asks, GOAL, (0, (0, None, None), (0, None, None))), (3, 1))
        self.assertEqual(worth(STANDS, asks, GOAL, (0, (1, None, None), (1, None, None))), (3, 2))
        self.assertEqual(worth(STANDS, asks, GOAL, (1, (1, None, None), (1, None, None))), (3, 2))
        self.assertEqual(worth(STANDS, asks, GOAL, (1, (0, None, None), None)), (3, 2))

    def test_a_no_on_another_axis(self):
        # On axis 1 all stands still: whether its place is 3 or more is sure, so a no leaves nothing at all.
        book = Book((RULE, FLAT), 1, (exact("a", 0, 0, 0, 4),), 0)
        goal = (0, 0, 1, 0)
        self.assertEqual(answers(book, (1, 1, 1, 0, (3, 1)), goal), (((0, 1), (4, 1)), None))
        self.assertEqual(answers(book, (1, 0, 1, 0, (4, 1)), goal), (None, ((0, 1), (4, 1))))
        self.assertEqual(answers(book, (1, 0, 1, 0, (31, 10)), goal), (None, ((0, 1), (4, 1))))
        self.assertEqual(answers(book, (1, 0, -1, 0, (-3, 1)), goal), (((0, 1), (4, 1)), None))

    def test_a_no_between_two_choices(self):
        # Either the eye or the ear is wrong: what one of both leaves is alone left.
        book = Book((RULE,), 0, (exact("eye", 0, 0, 0, 2), exact("ear", 0, 0, 5, 9)), 1)
        goal = (0, 0, 1, 0)
        self.assertEqual(answers(book, goal + ((4, 1),), goal), (((5, 1), (9, 1)), ((0, 1), (2, 1))))
        self.assertEqual(answers(book, goal + ((5, 1),), goal), (((5, 1), (9, 1)), ((0, 1), (2, 1))))
        self.assertEqual(answers(book, goal + ((0, 1),), goal), (((0, 1), (9, 1)), None))
        self.assertEqual(answers(book, goal + ((2, 1),), goal), (((2, 1), (9, 1)), ((0, 1), (2, 1))))

    def test_one_source_of_three_is_right(self):
        # Whichever it is, what one leaves must not hide what another leaves; the first ASK tells nothing.
        goal, speed = (0, 0, 1, 0), (0, 0, 0, 1, (0, 1))
        for a, b, c in itertools.permutations(((0, 3), (6, 9), (4, 5))):
            readings = tuple([exact(name, 0, 0, *told) for name, told in zip("abc", (a, b, c))])
            book = Book((RULE,), 0, readings, 2)
            for number, yes, no in ((4, (4, 9), (0, 3)), (6, (6, 9), (0, 5)), (5, (5, 9), (0, 5)), (1, (1, 9), (0, 1))):
                asks = (speed, goal + ((number, 1),))
                errors = [Fraction(high - low, 2) for low, high in (yes, no)]
                for way, told in (((1, None, None), max(errors)), ((0, (1, None, None), (1, None, None)), max(errors)),
                                  ((0, None, None), Fraction(9, 2)), ((0, (1, None, None), None), Fraction(9, 2))):
                    self.assertEqual(worth(book, asks, goal, way), fraction(told), (book.text, number, way))
        for low, high in (((0, 5), (4, 9)), ((0, 5), (5, 9)), ((0, 4), (5, 9))):
            for a, b, c in itertools.permutations((low, high, (4, 6))):
                readings = tuple([exact(name, 0, 0, *told) for name, told in zip("abc", (a, b, c))])
                book = Book((RULE,), 0, readings, 2)
                self.assertEqual(answers(book, speed, goal), (((0, 1), (9, 1)), ((0, 1), (9, 1))))

    def test_a_goal_that_is_one_number_alone(self):
        book = Book((FLAT,), 1, (), 0)
        asks = ((0, 0, 1, 0, (3, 1)), (0, 1, 0, 1, (1, 2)))
        goal = (0, 1, 2, 1)
        self.assertEqual(answers(book, asks[0], goal), (((6, 1), (6, 1)), None))
        for depth in (0, 1, 2):
            self.assertEqual(least_left(book, asks, goal, depth), (0, 1))
            for some in plans(2, 2):
                self.assertIs(shows_plan(book, asks, goal, depth, some), depth_of(some) <= depth)
        self.assertEqual(best_asks(book, asks, goal), ())

    def test_no_world(self):
        asks = (GOAL + ((1, 1),), GOAL + ((2, 1),))
        self.assertEqual(answers(NOTHING, asks[0], GOAL), (None, None))
        self.assertEqual(best_asks(NOTHING, asks, GOAL), ())
        for some in plans(2, 2):
            self.assertIsNone(worth(NOTHING, asks, GOAL, some))
            for depth in (0, 1, 2):
                self.assertIs(shows_plan(NOTHING, asks, GOAL, depth, some), some is None)
        for depth in (0, 1, 2):
            self.assertIsNone(least_left(NOTHING, asks, GOAL, depth))
            self.assertIsNone(plan(NOTHING, asks, GOAL, depth))

    def test_twelve_asks(self):
        asks = tuple([GOAL + ((at, 2),) if at % 2 else GOAL + ((at // 2, 1),) for at in range(1, 13)])
        self.assertEqual(best_asks(STANDS, asks, GOAL), (5,))
        self.assertEqual([least_left(STANDS, asks, GOAL, depth) for depth in (0, 1, 2)], [(3, 1), (3, 2), (3, 4)])
        self.assertEqual(plan(STANDS, asks, GOAL, 1), (5, None, None))
        self.assertEqual(worth(STANDS, asks, GOAL, plan(STANDS, asks, GOAL, 2)), (3, 4))
        self.assertIs(shows_plan(STANDS, asks, GOAL, 2, (5, (8, None, None), (2, None, None))), True)
        self.assertIs(shows_plan(STANDS, asks, GOAL, 2, (5, (2, None, None), (8, None, None))), False)
        self.assertIs(shows_plan(STANDS, asks, GOAL, 2, (5, None, None)), False)
        many = asks + asks[:1]
        self.refused(BadAsks, many, best_asks, STANDS, many, GOAL)

    def test_alike_asks_are_all_best(self):
        asks = (GOAL + ((3, 1),), GOAL + ((0, 1),), GOAL + ((3, 1),), (0, 2, -1, 0, (-3, 1)))
        self.assertEqual(best_asks(STANDS, asks, GOAL), (0, 2, 3))
        for number in (0, 2, 3):
            self.assertIs(shows_plan(STANDS, asks, GOAL, 1, (number, None, None)), True)
        for some in (None, (1, None, None)):
            self.assertIs(shows_plan(STANDS, asks, GOAL, 1, some), False)

    def test_none_is_a_plan_where_nothing_helps(self):
        asks = (GOAL + ((0, 1),), GOAL + ((7, 1),))
        for depth in (0, 1, 2):
            self.assertEqual(least_left(STANDS, asks, GOAL, depth), (3, 1))
            self.assertIs(shows_plan(STANDS, asks, GOAL, depth, None), True)
            self.assertIs(shows_plan(STANDS, asks, GOAL, depth, (1, None, None)), depth > 0)
        self.assertEqual(best_asks(STANDS, asks, GOAL), ())

    def test_last_and_depth_at_their_greatest(self):
        R = random.Random(324)
        book, motion = true_book(R, 12, 2, 12, 2, "abcdef")
        goal = (0, 6, 1, 1)
        low, high = [Fraction(*one) for one in bounds(book, goal)[:2]]
        asks = tuple([goal + (fraction(low + (high - low) * Fraction(at, 7)),) for at in range(1, 7)])
        chain = None
        for number in range(6):
            chain = (number, None, chain)
        self.assertEqual(depth_of(chain), 6)
        told = worth(book, asks, goal, chain)
        self.assertTrue(Fraction(*told) <= (high - low) / 14)
        again = (0, chain, None)
        self.refused(BadPlan, again, worth, book, asks, goal, again)

    def test_great_numbers(self):
        great = 3 ** 800
        number = (6 * great - 1, great)
        told = answers(STANDS, GOAL + (number,), GOAL)
        self.assertEqual(told, ((number, (6, 1)), ((0, 1), number)))
        self.assertEqual(worth(STANDS, (GOAL + (number,),), GOAL, (0, None, None)), (number[0], 2 * great))


def shared_plan(depth):
    """A PLAN with the same PLAN behind both answers, again and again."""
    some = None
    for _ in range(depth):
        some = (0, some, some)
    return some


NOT_PLANS = tuple([value for value in OTHERS if value is not None]) + (
    0, 1, (), (0,), (0, None), (0, None, None, None), [0, None, None], (3, None, None), (-1, None, None), (0, 0, None),
    (0, None, ()), (0, None, [0, None, None]), (0, (3, None, None), None), (0, None, (True, None, None)),
    ((0, None, None),), (None, None, None), (None,), shared_plan(7), shared_plan(60), (0, shared_plan(6), None),
    (0, None, shared_plan(6)), nested(tuple), ONE,
) + tuple([(wrong, None, None) for wrong in NOT_INTEGERS])


class Wrong(Refusals):
    def calls(self, book, asks, form):
        """Each function with ASKS, by these, and right values behind them."""
        for call, more in ((worth, (None,)), (least_left, (1,)), (plan, (1,)), (shows_plan, (1, None)),
                           (best_asks, ())):
            yield call, (book, asks, form) + more
            if more:
                yield call, (book, asks, form) + (("x",),) + more[1:]

    def test_book(self):
        for wrong in NOT_BOOKS:
            for some in (ASKS, None):
                for call, told in self.calls(wrong, some, some):
                    self.refused(NoBook, wrong, call, *told)
            self.refused(NoBook, wrong, answers, wrong, None, None)

    def test_ask(self):
        for wrong in NOT_ASKS_OF_ONE:
            for form in ((0, 1, 1, 0), None):
                self.refused(BadAsk, wrong, answers, ONE, wrong, form)

    def test_asks(self):
        ask = (0, 1, 1, 0, (1, 1))
        for wrong in OTHERS + (0, (), ask, [ask], (ask,) * 13, {0: ask}, (ask, None), ((ask,),), (ask, ask[:4]), ONE):
            for form in ((0, 1, 1, 0), None):
                for call, told in self.calls(ONE, wrong, form):
                    self.refused(BadAsks, wrong, call, *told)
        for bent in NOT_ASKS_OF_ONE:
            for wrong in ((bent,), (ask, bent, ask)):
                self.refused(BadAsks, wrong, worth, ONE, wrong, None, None)
                self.refused(BadAsks, wrong, best_asks, ONE, wrong, (0, 1, 1, 0))
        self.assertIsNotNone(worth(ONE, (ask,) * 12, (0, 1, 1, 0), None))

    def test_form(self):
        ask = (0, 1, 1, 0, (1, 1))
        for wrong in NOT_FORMS:
            self.refused(BadForm, wrong, answers, ONE, ask, wrong)
            for call, told in self.calls(ONE, (ask,), wrong):
                self.refused(BadForm, wrong, call, *told)

    def test_plan(self):
        for wrong in NOT_PLANS:
            self.refused(BadPlan, wrong, worth, STANDS, ASKS, GOAL, wrong)
            self.refused(BadPlan, wrong, worth, NOTHING, ASKS, GOAL, wrong)
            for depth in (0, 1, 2):
                self.assertIs(shows_plan(STANDS, ASKS, GOAL, depth, wrong), False)
                self.assertIs(shows_plan(NOTHING, ASKS, GOAL, depth, wrong), False)
        self.assertEqual(worth(STANDS, ASKS, GOAL, shared_plan(6)), (2, 1))
        for depth in (0, 1, 2):
            self.assertIs(shows_plan(STANDS, ASKS, GOAL, depth, shared_plan(6)), False)

    def test_depth(self):
        for wrong in NOT_INTEGERS + (-1, 3, 4, 6, 10 ** 30):
            for book in (STANDS, NOTHING):
                self.refused(BadNumber, wrong, least_left, book, ASKS, GOAL, wrong)
                self.refused(BadNumber, wrong, plan, book, ASKS, GOAL, wrong)
                for value in (None, (0, None, None), 5):
                    self.refused(BadNumber, wrong, shows_plan, book, ASKS, GOAL, wrong, value)

    def test_by_name(self):
        self.assertEqual(answers(form=GOAL, ask=ASKS[0], book=STANDS), answers(STANDS, ASKS[0], GOAL))
        self.assertEqual(worth(plan=(0, None, None), form=GOAL, asks=ASKS, book=STANDS), (2, 1))
        self.assertEqual(least_left(depth=2, form=GOAL, asks=ASKS, book=STANDS), (3, 2))
        self.assertIs(shows_plan(value=plan(depth=2, form=GOAL, asks=ASKS, book=STANDS), depth=2, form=GOAL, asks=ASKS,
                                 book=STANDS), True)
        self.assertEqual(best_asks(form=GOAL, asks=ASKS, book=STANDS), (0, 1))

    def test_other_values_of_shows_plan(self):
        for value in OTHERS + (0, (), points((0, 0)), ONE):
            self.assertIs(shows_plan(STANDS, ASKS, GOAL, 0, value), value is None)
            self.assertIs(shows_plan(STANDS, ASKS, GOAL, 1, value), False)

    def test_equal_calls(self):
        for some in itertools.product((0, 1, 2), repeat=2):
            told = [(least_left(STANDS, ASKS, GOAL, one), plan(STANDS, ASKS, GOAL, one)) for one in some]
            self.assertEqual(told, [(least_left(STANDS, ASKS, GOAL, one), plan(STANDS, ASKS, GOAL, one))
                                    for one in some])

    def test_unsure_readings(self):
        book = Book((RULE,), 3, (unsure("a", 0, 3, 0, 9, 10), exact("b", 1, 0, 4, 6)), 1)
        goal = (0, 2, 1, 0)
        model = Left(book, (goal + ((5, 1),), (0, 3, 0, 1, (0, 1))), goal)
        for some in plans(2, 1):
            self.assertEqual(worth(book, model.asks, goal, some), fraction(model.worth(some)))


if __name__ == "__main__":
    unittest.main()
