"""Section 11: what is sure of sources and READINGS."""

import random
import unittest

from allcoursesfit.books import Book, is_world, more
from allcoursesfit.errors import BadNumber, NoBook, NoSource
from allcoursesfit.sure import (barred_world, kept_world, right_world, shows_barred_world, shows_kept_world,
                                shows_right_world, shows_wrong_world, surely_right, surely_wrong, word_at, word_of,
                                wrong_world)
from allcoursesfit.trees import refuted, shows_refuted
from allcoursesfit.worlds import any_world
from tests.courses import held_ticks, strictly_world, wrong_in
from tests.drawn_books import books, small_book, true_book
from tests.model import pair
from tests.strictness import Model, word
from tests.test_books import near_motions
from tests.test_trees import is_a_tree
from tests.wrong import NOT_INTEGERS, OTHERS, Refusals, nested, points
from tests.wrong_books import FLAT, NOT_BOOKS, NOT_NAMES, ONE, RULE, exact, run, unsure


def beyond_all(reading, motion):
    """Whether the MOTION bars the READING, tick by tick."""
    source, axis, first, last, p, q, low, high = reading
    for tick in range(first, last + 1):
        place, speed = pair(motion[tick][axis])
        told = p * place + q * speed
        if not (low is not None and told < low or high is not None and told > high):
            return False
    return True


def near_values(R, book, world):
    """A WORLD, and values near to it."""
    motion, wrong = world
    yield world
    for near in near_motions(R, motion):
        yield (near, wrong)
    for names in (wrong[1:], wrong[::-1], wrong + wrong[:1], wrong + ("zz",), book.sources, book.sources[:book.wrong],
                  book.sources[-book.wrong:], book.sources[1:2], list(wrong), (), None, wrong + (True,)):
        yield (motion, names)
    yield from (motion, (motion,), [motion, wrong], (wrong, motion), world + ((),), True, False, 0, "none")


class Look(Refusals):
    def source_look(self, book, source):
        """Looks at what is told of a source; returns whether it can be right, and whether wrong."""
        right, wrong = right_world(book, source), wrong_world(book, source)
        if right is not None:
            self.assertTrue(strictly_world(book, right), (book.text, right))
            self.assertNotIn(source, wrong_in(book.readings, right[0]))
        if wrong is not None:
            self.assertTrue(strictly_world(book, wrong), (book.text, wrong))
            self.assertIn(source, wrong_in(book.readings, wrong[0]))
            self.assertIn(source, wrong[1])
        told = (right is not None, wrong is not None)
        self.assertEqual(word_of(book, source), word(*told, "right", "wrong"))
        self.assertEqual((right_world(book, source), wrong_world(book, source)), (right, wrong))
        for world, shows in ((right, shows_right_world), (wrong, shows_wrong_world)):
            self.assertIs(shows(book, source, world), True)
            self.assertIs(shows(book, source, None), world is None)
        return told

    def reading_look(self, book, number):
        """Looks at what is told of a READING; returns whether it can be kept, and whether barred."""
        reading = book.readings[number]
        kept, barred = kept_world(book, number), barred_world(book, number)
        if kept is not None:
            self.assertTrue(strictly_world(book, kept), (book.text, kept))
            self.assertTrue(held_ticks(reading, kept[0]))
        if barred is not None:
            self.assertTrue(strictly_world(book, barred), (book.text, barred))
            self.assertTrue(beyond_all(reading, barred[0]), (book.text, number, barred))
            self.assertIn(reading[0], barred[1])
        told = (kept is not None, barred is not None)
        self.assertEqual(word_at(book, number), word(*told, "kept", "barred"))
        self.assertEqual((kept_world(book, number), barred_world(book, number)), (kept, barred))
        for world, shows in ((kept, shows_kept_world), (barred, shows_barred_world)):
            self.assertIs(shows(book, number, world), True)
            self.assertIs(shows(book, number, None), world is None)
        return told

    def tree_look(self, book, source):
        """Where the source can't be right a TREE tells so, and nowhere else."""
        tree = refuted(book, 0, None, (source,))
        self.assertIs(tree is None, right_world(book, source) is not None)
        if tree is not None:
            self.assertIs(shows_refuted(book, 0, None, (source,), tree), True)
            self.assertTrue(is_a_tree(book, 0, None, (source,), tree))

    def lists_look(self, book):
        """surely_right and surely_wrong are those with these words, no others."""
        words = {source: word_of(book, source) for source in sorted({reading[0] for reading in book.readings})}
        self.assertEqual(surely_right(book), tuple([source for source in words if words[source] == "right"]))
        self.assertEqual(surely_wrong(book), tuple([source for source in words if words[source] == "wrong"]))


class AgainstTheModel(Look):
    def whole_look(self, book, found):
        model = Model(book)
        for source in book.sources:
            told = self.source_look(book, source)
            self.assertEqual(told, (model.can_be_right(source), model.can_be_wrong(source)), (book.text, source))
            self.tree_look(book, source)
            found.append(word_of(book, source))
        for number in range(len(book.readings)):
            told = self.reading_look(book, number)
            self.assertEqual(told, (model.can_be_kept(number), model.can_be_barred(number)), (book.text, number))
            found.append(word_at(book, number))
        self.lists_look(book)

    def test_drawn_books(self):
        found = []
        for R, book in books(301, 100):
            self.whole_look(book, found)
        for one in ("right", "wrong", "kept", "barred"):
            self.assertGreater(found.count(one), 8, one)
        self.assertGreater(found.count("open"), 60)
        self.assertGreater(found.count("none"), 30)

    def test_books_of_what_is_so(self):
        R = random.Random(302)
        found = []
        for turn in range(40):
            book, motion = true_book(R, turn % 4, 1 + turn % 3, R.randint(1, 5), turn % 3, "abc", turn % 2)
            self.whole_look(book, found)
        for one in ("right", "kept", "open"):
            self.assertGreater(found.count(one), 20, one)

    def test_two_or_three_unsure_readings_of_one_source(self):
        R = random.Random(303)
        found = []
        for turn in range(30):
            readings = []
            for at in range(2 + turn % 2):
                first = R.randint(0, 2)
                low = R.randint(-2, 6)
                bounds = ((low, None), (None, low), (low, low), (low, low + 1))[R.randrange(4)]
                readings.append(("ab"[at // 2], 0, first, 3) + R.choice(((1, 0), (0, 1), (1, 1))) + bounds)
            self.whole_look(Book(((0, 6, -2, 2, -1, 1),), 3, tuple(readings), 1 + turn % 2), found)
        for one in ("open", "kept", "barred"):
            self.assertIn(one, found)


class GreaterBooks(Look):
    def test_all_lasts_and_axes(self):
        R = random.Random(304)
        for turn, last in enumerate((0, 12, 5, 8, 12, 0, 10, 3)):
            book, motion = true_book(R, last, 1 + turn % 3, 8, turn % 4, "abcde")
            for source in book.sources:
                self.source_look(book, source)
                self.tree_look(book, source)
            for number in range(len(book.readings)):
                self.reading_look(book, number)
            for name in wrong_in(book.readings, motion):
                self.assertIn(word_of(book, name), ("open", "wrong"))
            for name in set(book.sources) - set(wrong_in(book.readings, motion)):
                self.assertIn(word_of(book, name), ("open", "right"))
            self.lists_look(book)

    def test_great_numbers(self):
        # The answer's WORLD is handed in again, wherever its FRACTIONS come from.
        book = Book((RULE,), 6, (exact("a", 6, 0, 9, 9), exact("b", 0, 0, 0, 3), exact("b", 3, 0, 7, 8)), 1)
        for source in book.sources:
            for told, shows in ((right_world(book, source), shows_right_world),
                                (wrong_world(book, source), shows_wrong_world)):
                self.assertIs(shows(book, source, told), True)
        great = 7 ** 3000
        motion = tuple([(((4 * great + 1, great), (0, 1)),)] * 7)
        many = Book((RULE,), 6, (exact("a", 2, 0, 5, 6),), 1)
        self.assertIs(shows_wrong_world(many, "a", (motion, ("a",))), True)
        self.assertIs(shows_barred_world(many, 0, (motion, ("a",))), True)
        self.assertIs(shows_right_world(many, "a", (motion, ("a",))), False)


class Edges(Look):
    def test_no_readings(self):
        for wrong in range(4):
            book = Book((RULE, FLAT), 3, (), wrong)
            self.assertEqual((surely_right(book), surely_wrong(book)), ((), ()))
            self.refused(BadNumber, 0, word_at, book, 0)
            self.refused(NoSource, "a", word_of, book, "a")

    def test_wrong_none(self):
        book = Book((RULE,), 2, (exact("a"), exact("b", 1, 0, 5, 6)), 0)
        for source in "ab":
            self.assertEqual(self.source_look(book, source), (True, False))
        self.assertEqual(surely_right(book), ("a", "b"))
        self.assertEqual([self.reading_look(book, number) for number in (0, 1)], [(True, False)] * 2)

    def test_no_world(self):
        readings = (exact("a", 0, 0, 0, 0), exact("a", 0, 0, 1, 1), exact("b", 0, 0, 5, 5))
        book = Book((RULE,), 2, readings, 0)
        self.assertEqual([word_of(book, source) for source in "ab"], ["none", "none"])
        self.assertEqual([word_at(book, number) for number in range(3)], ["none"] * 3)
        self.assertEqual((surely_wrong(book), surely_right(book)), ((), ()))
        for source in "ab":
            self.source_look(book, source)
            self.tree_look(book, source)
        # By no RULE either: whoever is wrong, nothing fits.
        book = Book(((0, 1, 5, 5, 0, 0),), 2, readings, 3)
        self.assertEqual([word_of(book, source) for source in "ab"], ["none", "none"])

    def test_wrong_as_many_as_there_are_and_more(self):
        readings = (exact("a", 0, 0, 0, 0), exact("b", 0, 0, 5, 5))
        for wrong, words in ((0, ["none"] * 2), (1, ["open"] * 2), (2, ["open"] * 2), (3, ["open"] * 2)):
            book = Book((RULE,), 2, readings, wrong)
            self.assertEqual([word_of(book, source) for source in "ab"], words)
        motion = run((3, 0), (3, 0), (3, 0))
        for wrong in (1, 2, 3):
            book = Book((RULE,), 2, readings, wrong)
            self.assertIs(shows_wrong_world(book, "a", (motion, ("a", "b"))), wrong > 1)

    def test_contradictory_readings_of_one_source(self):
        # Each by itself is open; together they cannot be.
        readings = (exact("a", 0, 0, 0, 2), exact("a", 0, 0, 5, 9))
        book = Book((RULE,), 2, readings, 1)
        self.assertEqual((word_of(book, "a"), [word_at(book, number) for number in (0, 1)]), ("wrong", ["open"] * 2))
        self.assertEqual(surely_wrong(book), ("a",))
        self.tree_look(book, "a")

    def test_bars_are_strict(self):
        # The place is 10 at most: it comes to the bound, but not beyond.
        book = Book((RULE,), 0, (exact("a", 0, 0, -5, 10),), 1)
        self.assertEqual((word_of(book, "a"), word_at(book, 0)), ("right", "kept"))
        book = Book((RULE,), 0, (exact("a", 0, 0, -5, 9),), 1)
        self.assertEqual((word_of(book, "a"), word_at(book, 0)), ("open", "open"))
        self.assertIs(shows_barred_world(book, 0, (run((9, 0)), ("a",))), False)
        self.assertIs(shows_wrong_world(book, "a", (run((9, 0)), ("a",))), False)
        self.assertIs(shows_kept_world(book, 0, (run((9, 0)), ("a",))), True)
        self.assertIs(shows_right_world(book, "a", (run((9, 0)), ("a",))), True)
        near = (((((9 * 10 ** 8 + 1), 10 ** 8), (0, 1)),),)
        self.assertIs(shows_barred_world(book, 0, (near, ("a",))), True)
        self.assertIs(shows_kept_world(book, 0, (near, ("a",))), False)
        # Beyond the bound on one side there is nothing, on the other a stretch.
        book = Book(((0, 10, 0, 0, 0, 0),), 0, (exact("a", 0, 0, 0, 9),), 1)
        place = barred_world(book, 0)[0][0][0][0]
        self.assertTrue(9 * place[1] < place[0] <= 10 * place[1])

    def test_a_reading_of_several_ticks_is_barred_at_all_of_them(self):
        # A body that stands is above 4 at both ticks or at none, one that moves need not be.
        stands = Book(((0, 10, 0, 0, 0, 0),), 1, (unsure("a", 0, 1, 0, None, 4), exact("b", 0, 0, 5, 5)), 1)
        self.assertEqual([word_at(stands, number) for number in (0, 1)], ["open", "open"])
        kept = more(stands, exact("b", 0, 0, 4, 5))
        self.assertEqual(word_of(kept, "a"), "open")
        # What b tells of the first tick is what a tells of one of both: they can't be barred apart.
        book = Book(((0, 9, 0, 9, -9, 9),), 1, (("a", 0, 0, 1, 1, 0, 0, 3), exact("b", 0, 0, 0, 0)), 1)
        self.assertEqual([word_of(book, source) for source in "ab"], ["right", "open"])
        both = Book(book.rules, 1, (("a", 0, 0, 1, 1, 0, 1, 3), exact("b", 0, 0, 0, 0)), 1)
        world = barred_world(both, 0)
        self.assertTrue(beyond_all(both.readings[0], world[0]))
        # Below at the one tick, above at the other.
        apart = Book(((0, 9, 4, 4, 0, 0),), 1, (("a", 0, 0, 1, 1, 0, 3, 5), exact("b", 0, 0, 2, 2), exact("c", 1, 0, 6,
            6)), 1)
        self.assertEqual(word_at(apart, 0), "barred")
        self.assertEqual(barred_world(apart, 0)[0], run((2, 4), (6, 4)))
        # Only one side at each tick, and only in different MOTIONS: then in one between them.
        wide = Book(((0, 9, -9, 9, -9, 9),), 2, (("a", 0, 0, 2, 1, 0, None, 8),), 1)
        self.assertTrue(beyond_all(wide.readings[0], barred_world(wide, 0)[0]))
        touching = Book(((0, 9, -9, 9, -9, 9),), 2, (("a", 0, 0, 2, 1, 0, None, 9),), 1)
        self.assertIsNone(barred_world(touching, 0))

    def test_cut_on_one_side_and_alike_bounds(self):
        for bounds, told in (((None, 4), "open"), ((6, None), "open"), ((None, 10), "kept"), ((0, None), "kept"),
                             ((5, 5), "open"), ((11, None), "barred"), ((None, -1), "barred"), ((12, 12), "barred")):
            book = Book((RULE,), 1, (("a", 0, 1, 1, 1, 0) + bounds,), 1)
            self.assertEqual(word_at(book, 0), told, bounds)
            self.assertEqual(word_of(book, "a"), {"kept": "right", "barred": "wrong", "open": "open"}[told])
            self.reading_look(book, 0)
            self.source_look(book, "a")
        # One POINT alone, which is told just so.
        book = Book((FLAT,), 2, (("a", 0, 1, 1, 1, 0, 3, 3), ("b", 0, 1, 1, 1, 0, 2, 2)), 1)
        self.assertEqual([word_of(book, source) for source in "ab"], ["right", "wrong"])

    def test_other_axes(self):
        # What is barred on one axis needs a MOTION on the other, too.
        rules = (RULE, FLAT)
        book = Book(rules, 2, (exact("a", 0, 0, 0, 4), exact("b", 0, 1, 5, 9)), 1)
        self.assertEqual([word_of(book, source) for source in "ab"], ["right", "wrong"])
        book = Book(rules, 2, (exact("a", 0, 0, 0, 4), exact("b", 0, 1, 5, 9)), 2)
        self.assertEqual([word_of(book, source) for source in "ab"], ["open", "wrong"])
        book = Book((RULE, RULE, RULE), 1, (("a", 2, 0, 1, 0, 1, 1, None), ("b", 1, 1, 1, 1, 1, None, 3)), 1)
        for source in "ab":
            self.assertEqual(self.source_look(book, source), (True, True))

    def test_wrong_is_no_more_than_may_be(self):
        # b and c speak against a: if a is right, both are wrong.
        readings = (exact("a", 1, 0, 0, 1), exact("b", 1, 0, 4, 5), exact("c", 1, 0, 8, 9))
        for wrong, words in ((1, ["none"] * 3), (2, ["open"] * 3)):
            book = Book((RULE,), 2, readings, wrong)
            self.assertEqual([word_of(book, source) for source in "abc"], words)
        book = Book((RULE,), 2, readings + (exact("d", 1, 0, 4, 6),), 2)
        self.assertEqual([word_of(book, source) for source in "abcd"], ["wrong", "right", "wrong", "right"])
        self.assertEqual((surely_wrong(book), surely_right(book)), (("a", "c"), ("b", "d")))


class Shows(Look):
    def test_near_values(self):
        found = []
        for R, book in books(305, 60):
            world = any_world(book)
            if world is None or not book.readings:
                continue
            number = R.randrange(len(book.readings))
            source = book.readings[number][0]
            for told in (right_world(book, source), wrong_world(book, source), barred_world(book, number), world):
                for near in near_values(R, book, told or world):
                    is_one = strictly_world(book, near)
                    for name in book.sources:
                        wrong = is_one and name in wrong_in(book.readings, near[0])
                        self.assertIs(shows_right_world(book, name, near), is_one and not wrong)
                        self.assertIs(shows_wrong_world(book, name, near), wrong)
                    for at, reading in enumerate(book.readings):
                        barred = is_one and not held_ticks(reading, near[0])
                        self.assertIs(shows_kept_world(book, at, near), is_one and not barred)
                        self.assertIs(shows_barred_world(book, at, near), barred)
                    found.append(is_one)
        self.assertGreater(found.count(True), 150)
        self.assertGreater(found.count(False), 2000)

    def test_names_that_are_not_barred(self):
        book = Book((RULE,), 0, (exact("a", 0, 0, 0, 5), exact("b", 0, 0, 0, 5)), 1)
        for wrong in ((), ("a",), ("b",)):
            self.assertIs(shows_right_world(book, "a", (run((3, 0)), wrong)), True)
            self.assertIs(shows_wrong_world(book, "a", (run((3, 0)), wrong)), False)
            self.assertIs(shows_kept_world(book, 0, (run((3, 0)), wrong)), True)
        self.assertIs(shows_right_world(book, "a", (run((3, 0)), ("a", "b"))), False)

    def test_other_values(self):
        for value in OTHERS + (0, ONE, (), ((), ()), nested(tuple), points((0, 0))):
            is_none = value is None
            self.assertIs(shows_right_world(ONE, "ear", value), is_none and right_world(ONE, "ear") is None)
            self.assertIs(shows_wrong_world(ONE, "ear", value), is_none and wrong_world(ONE, "ear") is None)
            self.assertIs(shows_kept_world(ONE, 0, value), is_none and kept_world(ONE, 0) is None)
            self.assertIs(shows_barred_world(ONE, 0, value), is_none and barred_world(ONE, 0) is None)


BY_SOURCE = (right_world, wrong_world, word_of)
BY_NUMBER = (kept_world, barred_world, word_at)


class Wrong(Refusals):
    def test_book(self):
        for wrong in NOT_BOOKS:
            for call in (surely_right, surely_wrong):
                self.refused(NoBook, wrong, call, wrong)
            for other in ("ear", None, 0):
                for call in BY_SOURCE + BY_NUMBER:
                    self.refused(NoBook, wrong, call, wrong, other)
                for call in (shows_right_world, shows_wrong_world, shows_kept_world, shows_barred_world):
                    self.refused(NoBook, wrong, call, wrong, other, None)

    def test_source(self):
        for wrong in NOT_NAMES + ("e", "ears", "EAR", "a", "radar", "ear\n", ("ear",), ["eye"]):
            if wrong in ("ear",):
                continue
            for call in BY_SOURCE:
                self.refused(NoSource, wrong, call, ONE, wrong)
            for call in (shows_right_world, shows_wrong_world):
                for value in (None, any_world(ONE)):
                    self.refused(NoSource, wrong, call, ONE, wrong, value)

    def test_number(self):
        for wrong in NOT_INTEGERS + (-1, 2, 3, 24, 10 ** 30):
            for call in BY_NUMBER:
                self.refused(BadNumber, wrong, call, ONE, wrong)
            for call in (shows_kept_world, shows_barred_world):
                for value in (None, any_world(ONE)):
                    self.refused(BadNumber, wrong, call, ONE, wrong, value)

    def test_by_name(self):
        for call in BY_SOURCE:
            self.assertEqual(call(source="eye", book=ONE), call(ONE, "eye"))
        for call in BY_NUMBER:
            self.assertEqual(call(number=1, book=ONE), call(ONE, 1))
        self.assertEqual((surely_right(book=ONE), surely_wrong(book=ONE)), (surely_right(ONE), surely_wrong(ONE)))
        for call in (shows_right_world, shows_wrong_world):
            self.assertIs(call(value=None, source="eye", book=ONE), False)
        for call in (shows_kept_world, shows_barred_world):
            self.assertIs(call(value=None, number=1, book=ONE), False)
        self.assertTrue(is_world(ONE, right_world(book=ONE, source="ear")))

    def test_nothing_is_changed(self):
        R = random.Random(306)
        for turn in range(10):
            book = small_book(R, 2, 1 + turn % 2, 4, turn % 3)
            was = (book.text, repr(book.readings))
            for source in book.sources:
                word_of(book, source)
            for number in range(4):
                word_at(book, number)
            self.assertEqual((book.text, repr(book.readings)), was)


if __name__ == "__main__":
    unittest.main()
