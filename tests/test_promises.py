"""Section 3: what is promised over the whole program, each sentence on drawn small BOOKS."""

import itertools
import random
import unittest
from fractions import Fraction

from allcoursesfit.asks import answers, best_asks, least_left, plan, worth
from allcoursesfit.benches import Bench
from allcoursesfit.books import Book, is_world, more, read_book, without
from allcoursesfit.bounds import bounds, can_be, can_be_in, middle, surely, surely_in
from allcoursesfit.desk import Desk
from allcoursesfit.journals import journal, read_journal
from allcoursesfit.keeping import Tracker
from allcoursesfit.lots import fits, has, is_empty
from allcoursesfit.pictures import course, picture
from allcoursesfit.shapes import where
from allcoursesfit.sure import barred_world, kept_world, right_world, word_at, word_of, wrong_world
from allcoursesfit.trees import refuted, shows_refuted
from allcoursesfit.worlds import any_world, told_by, world_with
from tests.courses import held_ticks, strictly_world, wrong_in
from tests.drawn_books import WEIGHTS, books, small_book
from tests.hands import drawn_line, reading_of, text_of
from tests.model import fraction, pair
from tests.test_asks import drawn_inquiry
from tests.test_trees import is_a_tree
from tests.test_worlds import drawn_state
from tests.wrong import Refusals
from tests.wrong_books import FLAT, RULE, exact

WORDS = {(True, False): "right", (False, True): "wrong", (True, True): "open", (False, False): "none"}
AT = {"right": "kept", "wrong": "barred", "open": "open", "none": "none"}


class Sure(Refusals):
    def test_each_source_and_each_reading(self):
        """(a): surely right, surely wrong, or open, with WORLDS for it, and, of what can't be right, a TREE."""
        found = []
        for R, book in books(381, 90):
            for source in book.sources:
                worlds = (right_world(book, source), wrong_world(book, source))
                told = tuple([world is not None for world in worlds])
                self.assertEqual(word_of(book, source), WORDS[told])
                self.assertTrue(all(world is None or strictly_world(book, world) for world in worlds))
                if told[0]:
                    self.assertNotIn(source, wrong_in(book.readings, worlds[0][0]))
                else:
                    tree = refuted(book, 0, None, (source,))
                    self.assertTrue(is_a_tree(book, 0, None, (source,), tree))
                if told[1]:
                    self.assertIn(source, wrong_in(book.readings, worlds[1][0]))
                found.append(WORDS[told])
            for number, reading in enumerate(book.readings):
                worlds = (kept_world(book, number), barred_world(book, number))
                told = tuple([world is not None for world in worlds])
                self.assertEqual(word_at(book, number), AT[WORDS[told]])
                self.assertTrue(not told[0] or held_ticks(reading, worlds[0][0]))
                self.assertTrue(not told[1] or not held_ticks(reading, worlds[1][0]))
                # A READING of a right source is kept; a barred one's source is wrong.
                if word_of(book, reading[0]) == "right":
                    self.assertEqual(word_at(book, number), "kept")
                if word_at(book, number) == "barred":
                    self.assertEqual(word_of(book, reading[0]), "wrong")
            self.assertIs("none" in [word_of(book, source) for source in book.sources],
                          is_empty(book) and book.sources != ())
        self.assertEqual(set(found), set(WORDS.values()))


class Estimates(Refusals):
    def test_the_middle_errs_least(self):
        """(b): two WORLDS that look the same to all READINGS show that no estimate errs less."""
        for R, book in books(382, 60):
            form = (R.randrange(len(book.rules)), R.randint(0, book.last)) + R.choice(WEIGHTS)
            told = bounds(book, form)
            self.assertIs(told is None, is_empty(book))
            if told is None:
                continue
            number, error = [Fraction(*one) for one in middle(book, form)]
            ends = []
            for world in told[2:]:
                self.assertTrue(strictly_world(book, world))
                place, speed = pair(world[0][form[1]][form[0]])
                ends.append(form[2] * place + form[3] * speed)
            self.assertEqual((ends[0] + ends[1]) / 2, number)
            self.assertEqual({abs(end - number) for end in ends}, {error})
            # No WORLD at all is farther away.
            self.assertIs(can_be(book, form + (fraction(number + error),)), True)
            self.assertIs(can_be(book, form + (fraction(number + error + Fraction(1, 10 ** 9)),)), False)
            self.assertIs(surely(book, form + (fraction(number - error),)), True)
            self.assertIs(surely(book, form + (fraction(number - error + Fraction(1, 10 ** 9)),)), False)


class Lots(Refusals):
    def test_lots_worlds_trees(self):
        """(c), (d), (e): each STATE within comes with a WORLD, each one without with a TREE, never both."""
        found = []
        for R, book in books(383, 60):
            tick = R.randint(0, book.last)
            lots = fits(book, tick)
            states = [drawn_state(R, book) for _ in range(3)]
            for wrong, ticks, shapes in lots[:2]:
                states += list(itertools.product(*[shape[:2] for shape in shapes]))[:2]
            for state in states:
                within = any(all(where(shape, point) >= 0 for shape, point in zip(shapes, state))
                             for wrong, ticks, shapes in lots)
                world, tree = world_with(book, tick, state), refuted(book, tick, state, ())
                self.assertEqual((has(book, tick, state), world is not None, tree is None), (within,) * 3)
                self.assertIs(can_be_in(book, tick, tuple([(point,) for point in state])), within)
                if within:
                    self.assertTrue(strictly_world(book, world) and world[0][tick] == state)
                else:
                    self.assertIs(shows_refuted(book, tick, state, (), tree), True)
                    self.assertTrue(is_a_tree(book, tick, state, (), tree))
                self.assertIs(shows_refuted(book, tick, state, (), None), within)
                found.append(within)
        self.assertGreater(found.count(True), 40)
        self.assertGreater(found.count(False), 80)

    def test_a_told_world_lies_in_all_that_is_told(self):
        for R, book in books(384, 60):
            world = any_world(book)
            if world is None:
                continue
            for tick, state in enumerate(world[0]):
                self.assertIs(has(book, tick, state), True)
                lots = fits(book, tick)
                hulls = [tuple([shapes[axis] for wrong, ticks, shapes in lots]) for axis in range(len(book.rules))]
                for axis, point in enumerate(state):
                    self.assertTrue(any(where(shape, point) >= 0 for shape in hulls[axis]))
                    place = point[0]
                    if place[1] == 1:
                        line = course(book, axis, (place[0], place[0])).split("\n")[tick]
                        self.assertEqual(line, "#")
                    if place[1] == point[1][1] == 1:
                        sign = picture(book, axis, tick, (place[0], place[0]), (point[1][0], point[1][0]))
                        self.assertIn(sign, "#o")
                if len(lots) == 1:
                    self.assertIs(surely_in(book, tick, lots[0][2]), True)


class Kept(Refusals):
    def test_whatever_the_sequence(self):
        """(f): a Tracker tells what all from nothing tells, in whatever sequence READINGS came."""
        R = random.Random(385)
        for turn in range(12):
            book = small_book(R, 1 + turn % 3, 1 + turn % 2, 3, turn % 3)
            for row in itertools.permutations(book.readings):
                tracker = Tracker(book.rules, 0, book.wrong)
                left = list(row)
                # Each READING as soon as its last tick has come, or later.
                while left or tracker.book.last < book.last:
                    ready = [reading for reading in left if reading[3] <= tracker.book.last]
                    if ready and (tracker.book.last == book.last or R.random() < 0.5):
                        tracker.put(ready[0])
                        left.remove(ready[0])
                    else:
                        tracker.later()
                    tick = R.randint(0, tracker.book.last)
                    self.assertEqual(tracker.fits(tick), fits(tracker.book, tick))
                fresh = Book(book.rules, book.last, tracker.book.readings, book.wrong)
                self.assertEqual(tracker.book, fresh)
                for tick in range(book.last + 1):
                    self.assertEqual(tracker.fits(tick), fits(fresh, tick))
                    state = drawn_state(R, book)
                    self.assertIs(tracker.has(tick, state), has(book, tick, state))

    def test_a_tracker_and_a_desk_with_the_same_deeds(self):
        R = random.Random(386)
        for turn in range(25):
            rules, last, wrong = ((RULE,), (RULE, FLAT))[turn % 2], 1 + turn % 3, turn % 3
            tracker, desk = Tracker(rules, last, wrong), Desk(journal(Bench(rules, last, wrong)))
            for _ in range(8):
                line = drawn_line(R, rules, last)
                word, _, text = line.partition(" ")
                try:
                    told = desk.say(line) if word != "wrong" else None
                except ValueError:
                    told = None
                if told == "done" and word == "read":
                    tracker.put(reading_of(text))
                elif told == "done":
                    tracker.take(tracker.numbers[int(text)])
                self.assertEqual(tracker.book, desk.bench.book)
                self.assertEqual(desk.say("fits"), "yes" if tracker.fits(0) else "no")
                tick = R.randint(0, last)
                self.assertEqual(tracker.fits(tick), fits(desk.bench.book, tick))
                state = drawn_state(R, tracker.book)
                self.assertIs(tracker.has(tick, state), has(desk.bench.book, tick, state))


class Asks(Refusals):
    def test_what_is_left_at_worst(self):
        """(g): what a further READING leaves at worst is told exactly, and which leaves least."""
        found = []
        for R, book in books(387, 50):
            asks, goal = drawn_inquiry(R, book, 2)
            worths = []
            for number, ask in enumerate(asks):
                ends = [one for one in answers(book, ask, goal) if one is not None]
                self.assertIs(ends == [], is_empty(book))
                if ends:
                    error = max((Fraction(*high) - Fraction(*low)) / 2 for low, high in ends)
                    self.assertEqual(worth(book, asks, goal, (number, None, None)), fraction(error))
                    worths.append(error)
            if not worths:
                self.assertIsNone(plan(book, asks, goal, 1))
                continue
            alone = Fraction(*middle(book, goal)[1])
            self.assertEqual(worth(book, asks, goal, None), fraction(alone))
            self.assertEqual(least_left(book, asks, goal, 1), fraction(min(worths + [alone])))
            best = tuple([number for number, error in enumerate(worths) if error == min(worths) < alone])
            self.assertEqual(best_asks(book, asks, goal), best)
            self.assertEqual(worth(book, asks, goal, plan(book, asks, goal, 2)), least_left(book, asks, goal, 2))
            found.append(best != ())
        self.assertGreater(found.count(True), 5)
        self.assertGreater(found.count(False), 5)

    def test_an_answer_that_is_a_reading(self):
        # A yes of whole numbers is told by a READING: it leaves just what the BOOK with this READING leaves.
        for R, book in books(388, 50):
            if len(book.sources) > 3 or book.wrong > 0:
                continue
            axis, tick, (p, q) = R.randrange(len(book.rules)), R.randint(0, book.last), R.choice(WEIGHTS)
            goal = (R.randrange(len(book.rules)), R.randint(0, book.last), 1, 1)
            number = R.randint(-4, 4)
            told = bounds(more(book, ("z", axis, tick, tick, p, q, number, None)), goal)
            self.assertEqual(answers(book, (axis, tick, p, q, (number, 1)), goal)[0], told and told[:2])


class Live(Refusals):
    def test_a_bench_tells_what_functions_tell(self):
        """(h): what is undone, and trials that are not kept, leave nothing; a journal is read back."""
        R = random.Random(389)
        for turn in range(30):
            rules = ((RULE,), (RULE, FLAT))[turn % 2]
            bench = Bench(rules, 3, 1)
            book = Book(rules, 3, (), 1)
            for _ in range(10):
                line = drawn_line(R, rules, 3)
                word, _, text = line.partition(" ")
                was, ahead = journal(bench), bench.book
                try:
                    bench.do(line)
                except ValueError:
                    self.assertEqual((journal(bench), bench.book), (was, ahead))
                    continue
                if word == "read":
                    book = more(book, reading_of(text))
                elif word == "off":
                    book = without(book, int(text))
                else:
                    book = Book(rules, 3, book.readings, int(text))
                self.assertEqual(bench.book, book)
                bench.undo()
                self.assertEqual((journal(bench), bench.book), (was, ahead))
                bench.redo()
                self.assertEqual(bench.book, book)
                now = journal(bench)
                bench.tried(lambda one: [one.do("wrong 3"), one.undo(), one.undo(), one.do("wrong 0")])
                self.assertEqual((journal(bench), bench.book), (now, book))
                self.assertTrue(read_journal(now) == bench)
            self.assertEqual(read_book(bench.book.text), bench.book)

    def test_told_values_are_handed_in_again(self):
        """What was told may be handed in again, put together otherwise, however great its numbers are."""
        R = random.Random(390)
        for turn in range(10):
            readings = tuple([exact("ab"[at % 2], at, 0, at, at + 1) for at in range(0, 9, 2)])
            book = Book(((-1000, 1000, -1000, 1000, -7, 9),), 12, readings, turn % 2)
            form = (0, R.randint(0, 12), R.randint(1, 9), R.randint(-9, 9))
            number, error = middle(book, form)
            great = Fraction(*number)
            for _ in range(9):
                great = great * Fraction(R.randint(10 ** 8, 10 ** 9 - 1), R.randint(10 ** 8, 10 ** 9 - 1))
            ask = form + (fraction(great),)
            self.assertIn(surely(book, ask), (True, False))
            self.assertEqual(len(answers(book, ask, form)), 2)
            told = bounds(book, form)
            state = told[2][0][form[1]]
            self.assertIs(has(book, form[1], state), True)
            self.assertTrue(is_world(book, told[2]))
            self.assertEqual(len(told_by(book, told[3][0])), len(readings))
        self.assertEqual(reading_of(text_of(exact("a"))), exact("a"))


if __name__ == "__main__":
    unittest.main()
