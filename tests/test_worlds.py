"""Section 9: WORLDS, and what shows them."""

import itertools
import random
import unittest
from fractions import Fraction

from allcoursesfit.books import Book, is_world
from allcoursesfit.errors import BadMarks, BadMotion, BadState, BadTick, NoBook
from allcoursesfit.lots import fits, has, is_empty
from allcoursesfit.worlds import (any_world, barred, shows_any_world, shows_world_through, shows_world_with, told_by,
                                  world_through, world_with)
from tests.courses import drawn_motion, held_ticks, strictly_world, wrong_in
from tests.drawn_books import books, true_book
from tests.elimination import all_choices, chosen_cuts, corners, region
from tests.model import pair, point
from tests.test_books import near_motions
from tests.wrong import NOT_INTEGERS, OTHERS, SOME, Refusals, nested, points
from tests.wrong_books import (FLAT, NOT_BOOKS, NOT_MOTIONS, NOT_STATES_OF_ONE, NOT_STATES_OF_TWO, ONE, RULE, SLOW,
                               exact, run, unsure)


def can_go_through(book, marks):
    """Whether some WORLD goes through the marks, by the model."""
    known = {}

    def can(axis, choice):
        cuts = chosen_cuts(book, choice, axis)
        for tick, state in marks:
            place, speed = pair(state[axis])
            cuts += [(tick, 1, 0, place, place), (tick, 0, 1, speed, speed)]
        key = (axis, tuple(cuts))
        if key not in known:
            known[key] = bool(corners(region(book.rules[axis], book.last, 0, cuts)))
        return known[key]

    return any(all(can(axis, choice) for axis in range(len(book.rules))) for choice in all_choices(book))


def drawn_state(R, book):
    return tuple([point(Fraction(R.randint(2 * rule[0] - 1, 2 * rule[1] + 1), 2),
                        Fraction(R.randint(2 * rule[2] - 1, 2 * rule[3] + 1), 2)) for rule in book.rules])


class Worlds(Refusals):
    def look(self, book, marks, told):
        if told is None:
            return
        self.assertTrue(strictly_world(book, told), (book.text, told))
        for tick, state in marks:
            self.assertEqual(told[0][tick], state)

    def test_any_world(self):
        found = []
        for R, book in books(91, 120):
            told = any_world(book)
            self.look(book, (), told)
            self.assertIs(told is None, is_empty(book))
            self.assertEqual(told, any_world(book))
            found.append(told is None)
        self.assertGreater(found.count(True), 10)
        self.assertGreater(found.count(False), 30)

    def test_world_with_corners_and_others(self):
        found = []
        for R, book in books(92, 44):
            for tick in range(book.last + 1):
                states = [drawn_state(R, book) for _ in range(2)]
                for _, _, shapes in fits(book, tick)[:3]:
                    states += list(itertools.product(*[shape[:4] for shape in shapes]))[:6]
                    states.append(tuple([point(*[sum(numbers) / len(shape) for numbers in zip(*map(pair, shape))])
                                         for shape in shapes]))
                    states.append(tuple([point(pair(shape[0])[0] - Fraction(1, 10 ** 6), pair(shape[0])[1])
                                         for shape in shapes]))
                for state in states:
                    told = world_with(book, tick, state)
                    self.look(book, ((tick, state),), told)
                    self.assertIs(told is not None, has(book, tick, state), (book.text, tick, state))
                    self.assertEqual(told, world_with(book, tick, state))
                    found.append(told is None)
        self.assertGreater(found.count(True), 150)
        self.assertGreater(found.count(False), 150)

    def test_marks_of_drawn_motions(self):
        R = random.Random(93)
        for turn in range(60):
            last = R.choice((0, 1, 3, 6, 12))
            book, motion = true_book(R, last, 1 + turn % 3, R.randint(0, 9), turn % 4)
            for many in (0, 1, 2, last, last + 1):
                ticks = sorted(R.sample(range(last + 1), min(many, last + 1)))
                marks = tuple([(tick, motion[tick]) for tick in ticks])
                told = world_through(book, marks)
                self.assertIsNotNone(told)
                self.look(book, marks, told)
                self.assertIs(shows_world_through(book, marks, told), True)
                self.assertIs(shows_world_through(book, marks, None), False)

    def test_marks_against_the_model(self):
        found = []
        for R, book in books(94, 160):
            world = any_world(book)
            for many in (1, 2, 3):
                ticks = sorted(R.sample(range(book.last + 1), min(many, book.last + 1)))
                marks = []
                for tick in ticks:
                    state = drawn_state(R, book)
                    if world is not None and R.random() < 0.7:
                        state = world[0][tick]
                    marks.append((tick, state))
                told = world_through(book, tuple(marks))
                self.look(book, marks, told)
                found.append(told is not None)
                self.assertIs(found[-1], can_go_through(book, marks), (book.text, marks))
                self.assertIs(shows_world_through(book, tuple(marks), None), not found[-1])
        self.assertGreater(found.count(True), 60)
        self.assertGreater(found.count(False), 100)

    def test_no_marks(self):
        for R, book in books(95, 40):
            told = world_through(book, ())
            self.look(book, (), told)
            self.assertIs(told is None, any_world(book) is None)

    def test_first_and_last_tick(self):
        book = Book((RULE,), 4, (exact("eye", 2, 0, 5, 5),), 0)
        told = world_through(book, ((0, points((3, 1))), (4, points((6, 0)))))
        self.assertTrue(is_world(book, told))
        self.assertEqual((told[0][0], told[0][4]), (points((3, 1)), points((6, 0))))
        self.assertIsNone(world_through(book, ((0, points((3, 1))), (4, points((10, 2))))))
        book = Book((RULE,), 12, (), 0)
        marks = tuple([(tick, points((4, 0))) for tick in range(13)])
        self.assertEqual(world_through(book, marks), (run(*[(4, 0)] * 13), ()))
        self.assertIsNone(world_through(book, marks[:12] + ((12, points((4, 2))),)))

    def test_unsure_ticks(self):
        book = Book((RULE,), 3, (("eye", 0, 0, 3, 1, 0, 9, None),), 0)
        for tick in range(4):
            told = world_with(book, tick, points((9, 0)))
            self.assertTrue(is_world(book, told))
        self.assertIsNone(world_through(book, tuple([(tick, points((4, 0))) for tick in range(4)])))

    def test_more_may_be_wrong_than_there_are(self):
        readings = (exact("a", 0, 0, 9, 9), exact("b", 0, 0, 0, 0))
        for wrong in range(4):
            told = any_world(Book((RULE,), 1, readings, wrong))
            self.assertIs(told is None, wrong == 0)
        told = world_with(Book((RULE,), 1, readings, 3), 0, points((5, 0)))
        self.assertEqual(told[1], ("a", "b"))

    def test_great_numbers(self):
        great = 3 ** 900
        state = (((3 * great + 1, great), (1, great)),)
        book = Book((RULE,), 3, (exact("eye", 2, 0, 3, 5),), 0)
        told = world_with(book, 1, state)
        self.assertTrue(is_world(book, told))
        self.assertTrue(strictly_world(book, told))
        self.assertEqual(told[0][1], state)
        self.assertIs(shows_world_with(book, 1, state, told), True)


class ByMotion(Refusals):
    def test_barred_and_told_by(self):
        R = random.Random(96)
        for turn in range(80):
            book, motion = true_book(R, R.choice((0, 1, 4)), 1 + turn % 3, R.randint(0, 9), turn % 4)
            for some in (motion, drawn_motion(R, book.rules, book.last, 3)):
                self.assertEqual(barred(book, some), wrong_in(book.readings, some))
                held = [held_ticks(reading, some) for reading in book.readings]
                self.assertEqual(told_by(book, some), tuple([(True, row[0]) if row else (False, None) for row in held]))
                self.assertIs(is_world(book, (some, barred(book, some))), len(barred(book, some)) <= book.wrong)

    def test_first_tick(self):
        book = Book((RULE,), 2, (unsure("a", 0, 2, 0, 4, 4), unsure("b", 0, 2, 0, 5, 5), unsure("a", 0, 2, 0, 9, 9)), 0)
        self.assertEqual(told_by(book, SLOW), ((True, 0), (True, 2), (False, None)))
        self.assertEqual(barred(book, SLOW), ("a",))
        self.assertEqual([type(one) for row in told_by(book, SLOW) for one in row], [bool, int, bool, int, bool,
            type(None)])

    def test_no_readings(self):
        book = Book((RULE,), 2, (), 3)
        self.assertEqual((barred(book, SLOW), told_by(book, SLOW)), ((), ()))

    def test_by_name(self):
        book = Book((RULE,), 2, (), 3)
        self.assertEqual((barred(motion=SLOW, book=book), told_by(motion=SLOW, book=book)), ((), ()))
        self.assertIsNotNone(any_world(book=book))
        self.assertEqual(world_with(state=SLOW[0], tick=0, book=book)[0][0], SLOW[0])
        self.assertEqual(world_through(marks=((0, SLOW[0]),), book=book)[0][0], SLOW[0])
        self.assertIs(shows_any_world(value=None, book=book), False)
        self.assertIs(shows_world_with(value=(SLOW, ()), state=SLOW[0], tick=0, book=book), True)
        self.assertIs(shows_world_through(value=(SLOW, ()), marks=((0, SLOW[0]),), book=book), True)


class Shows(Refusals):
    def near_worlds(self, R, book, world):
        """Values near to a WORLD."""
        motion, wrong = world
        for near in near_motions(R, motion):
            yield (near, wrong)
        for names in (wrong[1:], wrong[::-1], wrong + wrong[:1], wrong + ("zz",), ("a",) + wrong, wrong + ("d",),
                      list(wrong),
                      book.sources, book.sources[:book.wrong], book.sources[-1:], None, "".join(wrong), wrong + (None,),
                      wrong + (True,), ("A",), tuple([[name] for name in wrong]), dict.fromkeys(wrong)):
            yield (motion, names)
        for value in (motion, (motion,), (motion, wrong, ()), [motion, wrong], (wrong, motion), (None, wrong), None,
                      True):
            yield value

    def test_shows_what_may_be_told(self):
        found = []
        for R, book in books(97, 90):
            world = any_world(book)
            self.assertIs(shows_any_world(book, world), True)
            self.assertIs(shows_any_world(book, None), world is None)
            if world is None:
                continue
            tick = R.randint(0, book.last)
            marks = tuple([(at, world[0][at]) for at in sorted(R.sample(range(book.last + 1), R.randint(0,
                book.last + 1)))])
            for near in self.near_worlds(R, book, world):
                is_one = strictly_world(book, near)
                self.assertIs(shows_any_world(book, near), is_one)
                self.assertIs(shows_world_with(book, tick, world[0][tick], near),
                              is_one and near[0][tick] == world[0][tick])
                self.assertIs(shows_world_through(book, marks, near),
                              is_one and all(near[0][at] == state for at, state in marks))
                found.append(is_one)
            self.assertIs(shows_world_with(book, tick, world[0][tick], None), False)
        self.assertGreater(found.count(True), 100)
        self.assertGreater(found.count(False), 1000)

    def test_worlds_with_another_state(self):
        book = Book((RULE,), 2, (), 1)
        world = (SLOW, ())
        for tick, state in enumerate(SLOW):
            self.assertIs(shows_world_with(book, tick, state, world), True)
        for tick, state in ((0, points((4, 1))), (0, points((3, 0))), (1, points((4, 0))), (2, points((5, 2)))):
            self.assertIs(shows_world_with(book, tick, state, world), False)
            self.assertIs(shows_world_through(book, ((tick, state),), world), False)
        self.assertIs(shows_world_through(book, ((0, SLOW[0]), (2, points((5, 2)))), world), False)

    def test_none_where_there_is_none(self):
        for R, book in books(98, 60):
            for tick in range(book.last + 1):
                state = drawn_state(R, book)
                told = world_with(book, tick, state)
                self.assertIs(shows_world_with(book, tick, state, None), told is None)
                self.assertIs(shows_world_with(book, tick, state, told), True)
                self.assertIs(shows_world_through(book, ((tick, state),), None), told is None)

    def test_other_values(self):
        book = Book((RULE,), 2, (), 1)
        for value in OTHERS + NOT_MOTIONS + (book, SLOW, (SLOW,), (SLOW, None), (SLOW, []), (SLOW, ("a",)),
                                             nested(tuple)):
            self.assertIs(shows_any_world(book, value), False)
            self.assertIs(shows_world_with(book, 0, SLOW[0], value), False)
            self.assertIs(shows_world_through(book, ((0, SLOW[0]),), value), False)


def need_ticks_and_states(book):
    """Values that are no marks of a book of one axis and LAST 3."""
    here, there = SLOW[0], SLOW[1]
    return OTHERS + (
        0, 1, (0,), (0, here), ((0, here), (0, here)), ((0, here), (0, there)), ((1, here), (0, there)), [(0, here)],
        ([0, here],), {0: here}, ((0, here), (1, there), (1, there)), ((0, here), (2, here), (1, there)), ((0,),),
        ((),),
        ((0, here, here),), ((here, 0),), ((4, here),), ((-1, here),), ((True, here),), ((None, here),), (("0", here),),
        ((0, here), (True, there)), ((False, here), (1, there)), ((0, here), (4, there)), ((0, here), None), (here,),
        (0, here, 1, there), tuple([(tick, here) for tick in range(14)]), ((0, here),) * 14, ((0, (SOME, SOME)),), book,
        (((0, here),),), ((0, here), (1, there), (2, None)), (((0, 1), here),),
    ) + tuple([((0, wrong),) for wrong in NOT_STATES_OF_ONE]) + tuple(
        [((0, here), (3, wrong)) for wrong in NOT_STATES_OF_ONE]) + tuple([((wrong, here),) for wrong in NOT_INTEGERS])


class Wrong(Refusals):
    def test_book(self):
        for wrong in NOT_BOOKS:
            self.refused(NoBook, wrong, any_world, wrong)
            self.refused(NoBook, wrong, shows_any_world, wrong, None)
            for value in (None, SLOW):
                self.refused(NoBook, wrong, world_with, wrong, value, value)
                self.refused(NoBook, wrong, shows_world_with, wrong, value, value, value)
                self.refused(NoBook, wrong, world_through, wrong, value)
                self.refused(NoBook, wrong, shows_world_through, wrong, value, value)
                self.refused(NoBook, wrong, barred, wrong, value)
                self.refused(NoBook, wrong, told_by, wrong, value)

    def test_tick(self):
        for wrong in NOT_INTEGERS + (-1, 4, 12, 13, 10 ** 30):
            for state in (SLOW[0], None):
                self.refused(BadTick, wrong, world_with, ONE, wrong, state)
                self.refused(BadTick, wrong, shows_world_with, ONE, wrong, state, None)

    def test_state(self):
        for wrong in NOT_STATES_OF_ONE:
            self.refused(BadState, wrong, world_with, ONE, 3, wrong)
            self.refused(BadState, wrong, shows_world_with, ONE, 3, wrong, None)
            self.refused(BadState, wrong, shows_world_with, ONE, 3, wrong, any_world(ONE))
        book = Book((RULE, FLAT), 0, (), 0)
        for wrong in NOT_STATES_OF_TWO:
            self.refused(BadState, wrong, world_with, book, 0, wrong)

    def test_marks(self):
        for wrong in need_ticks_and_states(ONE):
            self.refused(BadMarks, wrong, world_through, ONE, wrong)
            self.refused(BadMarks, wrong, shows_world_through, ONE, wrong, None)
        book = Book((RULE, FLAT), 2, (), 0)
        for wrong in NOT_STATES_OF_TWO:
            marks = ((1, wrong),)
            self.refused(BadMarks, marks, world_through, book, marks)
        book = Book((RULE,), 12, (), 0)
        marks = tuple([(tick, SLOW[0]) for tick in range(13)]) + ((13, SLOW[0]),)
        self.refused(BadMarks, marks, world_through, book, marks)

    def test_motion(self):
        book = Book((RULE,), 2, (exact("a"),), 0)
        for wrong in NOT_MOTIONS + (SLOW[:2], SLOW + run((6, 1)), run((4, 0)), (), book):
            self.refused(BadMotion, wrong, barred, book, wrong)
            self.refused(BadMotion, wrong, told_by, book, wrong)


if __name__ == "__main__":
    unittest.main()
