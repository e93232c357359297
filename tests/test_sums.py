"""Section 10, first part: ROWS, and sums of them."""

import random
import unittest
from fractions import Fraction

from allcoursesfit.books import Book, read_book
from allcoursesfit.errors import BadAxis, BadState, BadSum, BadTick, NoBook
from allcoursesfit.sums import rows, summed
from tests.courses import drawn_motion
from tests.drawn_books import books
from tests.model import fraction, point, strictly_fraction
from tests.wrong import NOT_FRACTIONS, NOT_INTEGERS, OTHERS, Refusals, points
from tests.wrong_books import (FLAT, NOT_BOOKS, NOT_STATES_OF_ONE, NOT_STATES_OF_TWO, ONE, RULE, exact, unsure)


def table(book, tick, state, axis):
    """The table of section 10, line by line: (ROW, {(t, word): many}, number)."""
    p0, p1, s0, s1, a0, a1 = book.rules[axis]
    found = []
    for t in range(book.last + 1):
        found += [(("place", t, "low"), {(t, "place"): -1}, -p0), (("place", t, "high"), {(t, "place"): 1}, p1),
                  (("speed", t, "low"), {(t, "speed"): -1}, -s0), (("speed", t, "high"), {(t, "speed"): 1}, s1)]
    for t in range(book.last):
        found += [(("push", t, "low"), {(t, "speed"): 1, (t + 1, "speed"): -1}, -a0),
                  (("push", t, "high"), {(t + 1, "speed"): 1, (t, "speed"): -1}, a1),
                  (("step", t, "low"), {(t, "place"): 1, (t, "speed"): 1, (t + 1, "place"): -1}, 0),
                  (("step", t, "high"), {(t + 1, "place"): 1, (t, "place"): -1, (t, "speed"): -1}, 0)]
    for n, (source, where, first, last, p, q, low, high) in enumerate(book.readings):
        for t in range(first, last + 1):
            if where == axis and low is not None:
                found.append((("reading", n, t, "low"), {(t, "place"): -p, (t, "speed"): -q}, -low))
            if where == axis and high is not None:
                found.append((("reading", n, t, "high"), {(t, "place"): p, (t, "speed"): q}, high))
    if state is not None:
        place, speed = [Fraction(*number) for number in state[axis]]
        found += [(("state", "place", "low"), {(tick, "place"): -1}, -place),
                  (("state", "place", "high"), {(tick, "place"): 1}, place),
                  (("state", "speed", "low"), {(tick, "speed"): -1}, -speed),
                  (("state", "speed", "high"), {(tick, "speed"): 1}, speed)]
    return found


def as_terms(many):
    """The terms of a dict of numbers, but for those that are 0."""
    return tuple(sorted([(t, word, fraction(number)) for (t, word), number in many.items() if number != 0]))


def drawn_state(R, book):
    return tuple([point(Fraction(R.randint(-9, 9), R.randint(1, 4)), Fraction(R.randint(-9, 9), R.randint(1, 4)))
                  for _ in book.rules])


class Rows(unittest.TestCase):
    def test_the_table(self):
        for R, book in books(101, 120):
            for axis in range(len(book.rules)):
                for state in (None, drawn_state(R, book)):
                    tick = R.randint(0, book.last)
                    told = rows(book, tick, state, axis)
                    self.assertIs(type(told), tuple)
                    self.assertEqual(told, tuple(sorted(told)))
                    model = [(row, as_terms(many), fraction(number))
                             for row, many, number in table(book, tick, state, axis)]
                    self.assertEqual(told, tuple(sorted(model)))
                    for row, terms, number in told:
                        self.assertTrue(strictly_fraction(number))
                        self.assertTrue(all(strictly_fraction(many) for _, _, many in terms))
                        self.assertEqual((type(row), type(terms)), (tuple, tuple))

    def test_long_ones(self):
        book = Book((RULE, FLAT), 12, (exact("a", 12), exact("b", 10, 1), unsure("a", 9, 12)), 0)
        told = [row for row, _, _ in rows(book, 10, None, 0)]
        self.assertEqual(len(told), 13 * 4 + 12 * 4 + 2 + 8)
        self.assertLess(told.index(("place", 9, "low")), told.index(("place", 10, "high")))
        self.assertLess(told.index(("reading", 2, 9, "low")), told.index(("reading", 2, 10, "high")))
        self.assertEqual(len(rows(book, 10, None, 1)), 13 * 4 + 12 * 4 + 2)
        self.assertEqual(len(rows(book, 10, points((1, 1), (2, 2)), 1)), 13 * 4 + 12 * 4 + 2 + 4)

    def test_last_0(self):
        told = rows(Book((RULE,), 0, (), 0), 0, None, 0)
        self.assertEqual(told, (
            (("place", 0, "high"), ((0, "place", (1, 1)),), (10, 1)), (("place", 0, "low"), ((0, "place", (-1, 1)),),
                                                                       (0, 1)),
            (("speed", 0, "high"), ((0, "speed", (1, 1)),), (2, 1)), (("speed", 0, "low"), ((0, "speed", (-1, 1)),),
                                                                      (2, 1))))

    def test_state_is_of_the_axis(self):
        book = Book((RULE, FLAT), 3, (), 0)
        state = (point(Fraction(1, 2), 5), point(Fraction(-2, 3), 7))
        told = {row: (terms, number) for row, terms, number in rows(book, 2, state, 1)}
        self.assertEqual(told[("state", "place", "low")], (((2, "place", (-1, 1)),), (2, 3)))
        self.assertEqual(told[("state", "place", "high")], (((2, "place", (1, 1)),), (-2, 3)))
        self.assertEqual(told[("state", "speed", "low")], (((2, "speed", (-1, 1)),), (-7, 1)))
        self.assertEqual(told[("state", "speed", "high")], (((2, "speed", (1, 1)),), (7, 1)))

    def test_every_motion_keeps_them(self):
        R = random.Random(102)
        book = Book((RULE, (-9, 9, -3, 3, -2, 1)), 4, (exact("a", 2),), 0)
        for _ in range(20):
            motion = drawn_motion(R, book.rules, 4, 5)
            for axis in range(2):
                for row, terms, number in rows(book, 3, motion[3], axis):
                    told = sum([Fraction(*many) * Fraction(*motion[t][axis][word == "speed"]) for t, word,
                                many in terms])
                    if row[0] != "reading":
                        self.assertLessEqual(told, Fraction(*number))


class Sums(Refusals):
    def test_against_the_model(self):
        for R, book in books(103, 80):
            axis = R.randrange(len(book.rules))
            state = R.choice((None, drawn_state(R, book)))
            tick = R.randint(0, book.last)
            model = sorted(table(book, tick, state, axis), key=lambda entry: entry[0])
            for many in (0, 1, 2, 5, len(model)):
                some = sorted(R.sample(range(len(model)), min(many, len(model))))
                weights = [Fraction(R.randint(1, 9), R.randint(1, 5)) for _ in some]
                value = tuple([(model[at][0], fraction(weight)) for at, weight in zip(some, weights)])
                whole, number = {}, Fraction(0)
                for at, weight in zip(some, weights):
                    number += weight * model[at][2]
                    for key, share in model[at][1].items():
                        whole[key] = whole.get(key, 0) + weight * share
                told = summed(book, tick, state, axis, value)
                self.assertEqual(told, (as_terms(whole), fraction(number)))
                self.assertIs(type(told), tuple)
                self.assertIs(type(told[0]), tuple)

    def test_what_comes_to_nothing(self):
        book = Book((RULE,), 1, (), 0)
        both = ((("place", 0, "high"), (2, 3)), (("place", 0, "low"), (2, 3)))
        self.assertEqual(summed(book, 0, None, 0, both), ((), (20, 3)))
        other = ((("place", 0, "high"), (2, 3)), (("place", 0, "low"), (1, 3)))
        self.assertEqual(summed(book, 0, None, 0, other), (((0, "place", (1, 3)),), (20, 3)))
        self.assertEqual(summed(book, 0, None, 0, ()), ((), (0, 1)))

    def test_great_numbers(self):
        great = 3 ** 5000
        book = Book((RULE,), 1, (), 0)
        state = (((1, great), (great, great + 1)),)
        value = ((("speed", 0, "high"), (1, great)), (("state", "speed", "low"), (1, great)))
        self.assertEqual(summed(book, 0, state, 0, value), ((), (great + 2, great * (great + 1))))

    def test_no_sums(self):
        book = Book((RULE, FLAT), 2, (exact("a", 1), exact("b", 1, 1), unsure("c", 0, 1, 0, 2, None)), 0)
        state = points((4, 0), (3, 0))
        one = (1, 1)
        good = ((("place", 0, "low"), one), (("place", 1, "high"), (1, 2)), (("reading", 0, 1, "low"), (7, 3)),
                (("state", "speed", "low"), one))
        self.assertEqual(summed(book, 1, state, 0, good)[1], (5, 1))
        low = ("place", 1, "low")
        others = OTHERS + (
            0, 1, (1,), (low,), low, (low, one), [(low, one)], ([low, one],), {low: one}, ((low,),), ((low, one,
                one),), (one,),
            ((one, low),), ((low, one), (low, one)), ((low, one), (("place", 1, "high"), one)), good[::-1], list(good),
            (good,),
            good + good, good[:1] + good, good + (None,), good + ((),), ((("place", True, "low"), one),),
            ((("place", 1, "low", 0), one),), ((("place", 1), one),), ((("place", 3, "low"), one),),
            ((("place", -1, "low"), one),), ((("place", "1", "low"), one),), ((("place", None, "low"), one),),
            (((1, "place", "low"), one),), ((["place", 1, "low"], one),), ((("Place", 1, "low"), one),),
            ((("push", 2, "low"), one),), ((("step", 2, "low"), one),), ((("place", 1, "middle"), one),),
            ((("reading", 1, 1, "low"), one),), ((("reading", 0, 0, "low"), one),), ((("reading", 3, 1, "low"), one),),
            ((("reading", False, 1, "low"), one),), ((("reading", 0, True, "low"), one),),
            ((("reading", 2, 1, "high"), one),), ((("reading", 2, 2, "low"), one),), ((("reading", 0, 1), one),),
            ((("reading", "a", 1, "low"), one),), ((("state", "place", 1, "low"), one),), ((("state", 1, "low"), one),),
            ((("place", (1,), "low"), one),), ((("place", [1], "low"), one),), (((), one),), ((None, one),), (("place",
                one),),
            ((low, (0, 1)),), ((low, (-1, 1)),), ((low, (-1, 2)),), ((low, (2, 2)),), ((low, 1),), ((low, (1, 0)),),
            (book,),
        ) + tuple([((low, wrong),) for wrong in NOT_FRACTIONS])
        for wrong in others:
            self.refused(BadSum, wrong, summed, book, 1, state, 0, wrong)
        for wrong in (((("state", "place", "low"), one),), ((("state", "speed", "high"), one),)):
            self.refused(BadSum, wrong, summed, book, 1, None, 0, wrong)
            self.assertEqual(len(summed(book, 1, state, 0, wrong)[0]), 1)
        wrong = ((("reading", 0, 1, "low"), one),)
        self.refused(BadSum, wrong, summed, book, 1, state, 1, wrong)
        self.assertEqual(summed(book, 1, state, 0, wrong), (((1, "place", (-1, 1)),), (0, 1)))

    def test_sequence_of_ticks(self):
        book = Book((RULE,), 12, (), 0)
        one = (1, 1)
        right = ((("place", 9, "low"), one), (("place", 10, "low"), one))
        self.assertEqual(len(summed(book, 0, None, 0, right)[0]), 2)
        wrong = right[::-1]
        self.refused(BadSum, wrong, summed, book, 0, None, 0, wrong)

    def test_by_name(self):
        book = Book((RULE,), 1, (), 0)
        self.assertEqual(rows(axis=0, state=None, tick=1, book=book), rows(book, 1, None, 0))
        self.assertEqual(summed(value=(), axis=0, state=None, tick=1, book=book), ((), (0, 1)))


class Wrong(Refusals):
    def look(self, kind, wrong, book, tick, state, axis):
        self.refused(kind, wrong, rows, book, tick, state, axis)
        self.refused(kind, wrong, summed, book, tick, state, axis, ())
        self.refused(kind, wrong, summed, book, tick, state, axis, None)

    def test_sequence(self):
        for wrong in NOT_BOOKS:
            self.look(NoBook, wrong, wrong, 0, None, 0)
            self.look(NoBook, wrong, wrong, "x", "x", "x")
        for wrong in NOT_INTEGERS + (-1, 4, 13, 10 ** 30):
            self.look(BadTick, wrong, ONE, wrong, None, 0)
            self.look(BadTick, wrong, ONE, wrong, "x", "x")
        for wrong in NOT_STATES_OF_ONE:
            if wrong is not None:
                self.look(BadState, wrong, ONE, 3, wrong, 0)
                self.look(BadState, wrong, ONE, 3, wrong, "x")
        for wrong in NOT_STATES_OF_TWO:
            if wrong is not None:
                self.look(BadState, wrong, Book((RULE, FLAT), 0, (), 0), 0, wrong, 0)
        for wrong in NOT_INTEGERS + (-1, 1, 2, 10 ** 30):
            self.look(BadAxis, wrong, ONE, 0, None, wrong)
            self.look(BadAxis, wrong, ONE, 0, points((1, 1)), wrong)

    def test_axes(self):
        book = read_book("rule 0 9 -1 2 -1 1\nrule 0 9 -1 2 -1 1\nrule 0 9 -1 2 -1 1\nlast 0\nwrong 0")
        for axis in range(3):
            self.assertEqual(len(rows(book, 0, None, axis)), 4)
        self.look(BadAxis, 3, book, 0, None, 3)


if __name__ == "__main__":
    unittest.main()
