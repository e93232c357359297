"""Section 16: a Bench."""

import random
import unittest

from allcoursesfit import errors
from allcoursesfit.benches import Bench
from allcoursesfit.books import Book
from allcoursesfit.errors import BadLast, BadRules, BadTask, BadWrong, FitError, NoBlock, NothingToRedo, NothingToUndo
from allcoursesfit.journals import journal, read_journal
from tests.hands import BAD_LINES, Shadow, drawn_line, text_of
from tests.wrong import OTHERS, Refusals
from tests.wrong_books import (EXACT, FLAT, NOT_LAST, NOT_READING_TEXTS, NOT_RULES, NOT_WRONG, RULE, TWENTY_FOUR, exact,
                               unsure)

NOT_LINES = tuple([value for value in OTHERS if not isinstance(value, str)]) + (0, 1, (), ("off 0",), ["off 0"], EXACT)
NOT_TRUE = (False, None, 1, "True", "", (), [True], (True,), 2, {})


class Stop(Exception):
    """An error that is none of the package."""


class Looks(Refusals):
    def look(self, shadow):
        """Looks at all that a Bench tells, and at whether it undoes and does again just as it should."""
        bench = shadow.bench
        self.assertEqual(bench.book, shadow.book())
        self.assertEqual((bench.rules, bench.last), (shadow.rules, shadow.last))
        self.assertEqual((bench.deeds, len(bench)), (len(shadow.done), len(shadow.book().readings)))
        self.assertEqual(journal(bench), shadow.journal())

    def ends_look(self, shadow):
        """Looks at all that can be undone and done again, at a copy."""
        other = shadow.twin(shadow.bench.copy())
        while other.done:
            self.undo(other)
            self.look(other)
        self.undo(other)
        while other.undone:
            self.redo(other)
        self.redo(other)
        self.look(other)

    def do(self, shadow, line):
        told = shadow.expected(line)
        if told[0] == "refused":
            error = self.refusal(shadow.bench.do, line)
            self.assertEqual((type(error).__name__, error.value), told[1:], (shadow.journal(), line))
        else:
            self.assertIsNone(shadow.bench.do(line))
            shadow.done, shadow.undone = shadow.done + (line,), ()

    def undo(self, shadow):
        if shadow.done == ():
            self.refused(NothingToUndo, None, shadow.bench.undo)
        else:
            self.assertIsNone(shadow.bench.undo())
            shadow.done, shadow.undone = shadow.done[:-1], shadow.undone + shadow.done[-1:]

    def redo(self, shadow):
        if shadow.undone == ():
            self.refused(NothingToRedo, None, shadow.bench.redo)
        else:
            self.assertIsNone(shadow.bench.redo())
            shadow.done, shadow.undone = shadow.done + shadow.undone[-1:], shadow.undone[:-1]


class Drawn(Looks):
    def trial(self, R, shadow, depth, found):
        """A drawn trial: what is done within, whether it is kept, how it ends."""
        was = (shadow.done, shadow.undone)
        keep = R.choice((True, True, False, False, None, 1, "absent"))
        calls = R.random() < 0.4
        end = R.choice(("back", "back", "back", "error", "other"))
        answer = object()

        def within(bench):
            self.assertIs(bench, shadow.bench)
            at = R.randint(0, 4)
            for turn in range(5):
                if calls and turn == at:
                    self.assertIsNone(bench.keep())
                self.go_on(R, shadow, depth + 1, found)
            if end == "error":
                raise BadTask("it ended")
            if end == "other":
                raise Stop
            return answer

        try:
            if keep == "absent":
                told = shadow.bench.tried(within)
            else:
                told = shadow.bench.tried(look=within, keep=keep)
            self.assertIs(told, answer)
        except (BadTask, Stop) as error:
            self.assertEqual((type(error), end), (BadTask, "error") if type(error) is BadTask else (Stop, "other"))
        kept = end == "back" and (keep is True or calls)
        if not kept:
            shadow.done, shadow.undone = was
        found.append((depth, kept))

    def go_on(self, R, shadow, depth, found):
        """One drawn deed, or trial."""
        word = R.random()
        if word < 0.55:
            self.do(shadow, drawn_line(R, shadow.rules, shadow.last))
        elif word < 0.7:
            self.undo(shadow)
        elif word < 0.82:
            self.redo(shadow)
        elif word < 0.94:
            if depth < 3:
                self.trial(R, shadow, depth, found)
        else:
            self.copy(R, shadow, found)
        self.look(shadow)

    def copy(self, R, shadow, found):
        """A copy goes on by itself, outside of all trials."""
        other = shadow.twin(shadow.bench.copy())
        self.assertTrue(other.bench == shadow.bench)
        self.refused(NoBlock, None, other.bench.keep)
        was = shadow.journal()
        for _ in range(3):
            self.do(other, drawn_line(R, shadow.rules, shadow.last))
            self.undo(other)
            self.redo(other)
        self.ends_look(other)
        self.assertEqual(journal(shadow.bench), was)
        found.append("copied")

    def test_drawn_deeds(self):
        R = random.Random(351)
        found = []
        for turn in range(70):
            rules = (RULE, FLAT, (-5, 5, -2, 2, 0, 1))[:1 + turn % 3]
            shadow = Shadow(rules, turn % 5, turn % 4)
            self.look(shadow)
            for _ in range(30):
                self.go_on(R, shadow, 0, found)
            self.ends_look(shadow)
            self.refused(NoBlock, None, shadow.bench.keep)
            self.assertEqual(read_journal(journal(shadow.bench)), shadow.bench)
        for depth in (0, 1, 2):
            for kept in (True, False):
                self.assertGreater(found.count((depth, kept)), 20, (depth, kept))
        self.assertGreater(found.count("copied"), 100)


class Deeds(Looks):
    def test_created(self):
        bench = Bench((RULE, FLAT), 4, 2)
        self.assertEqual((bench.rules, bench.last, bench.deeds, bench.book, len(bench)),
                         ((RULE, FLAT), 4, 0, Book((RULE, FLAT), 4, (), 2), 0))
        for name in ("rules", "last", "deeds", "book"):
            self.assertIn(name, vars(bench))
        self.assertEqual(Bench(wrong=2, last=4, rules=(RULE, FLAT)), bench)
        for wrong in NOT_RULES:
            self.refused(BadRules, wrong, Bench, wrong, 2, 0)
            self.refused(BadRules, wrong, Bench, wrong, None, None)
        for wrong in NOT_LAST:
            self.refused(BadLast, wrong, Bench, (RULE,), wrong, 0)
            self.refused(BadLast, wrong, Bench, (RULE,), wrong, None)
        for wrong in NOT_WRONG:
            self.refused(BadWrong, wrong, Bench, (RULE,), 2, wrong)

    def test_reads_come_behind_and_those_behind_move_up(self):
        shadow = Shadow((RULE,), 3, 0)
        for name in "abcd":
            self.do(shadow, "read " + text_of(exact(name)))
        self.assertEqual([reading[0] for reading in shadow.bench.book.readings], list("abcd"))
        for line, left in (("off 1", "acd"), ("off 0", "cd"), ("off 1", "c"), ("off 1", "c"), ("off 0", ""),
                           ("off 0", "")):
            self.do(shadow, line)
            self.assertEqual([reading[0] for reading in shadow.bench.book.readings], list(left))
        self.assertEqual((len(shadow.bench), shadow.bench.deeds), (0, 8))
        self.ends_look(shadow)

    def test_off(self):
        bench = Bench((RULE,), 3, 0)
        for name in "abc":
            bench.do("read " + text_of(exact(name)))
        was = journal(bench)
        for number in (-1, 3, 4, -3, 24, 999999999, -999999999):
            error = self.refusal(bench.do, f"off {number}")
            self.assertEqual((type(error).__name__, error.value), ("NoReading", number))
        for line in ("off -0", "off 00", "off 01", "off +0", "off 0 ", "off", "off ", "off a", "off 0..1", "off 0\n"):
            self.refused(BadTask, line, bench.do, line)
        self.assertEqual(journal(bench), was)
        bench.do("off 2")
        bench.do("off 0")
        self.assertEqual(bench.book.readings, (exact("b"),))

    def test_wrong(self):
        bench = Bench((RULE,), 3, 0)
        for number in (0, 1, 2, 3, 3):
            self.assertIsNone(bench.do(f"wrong {number}"))
            self.assertEqual(bench.book.wrong, number)
        self.assertEqual(bench.deeds, 5)
        for number in (-1, 4, 5, 24, -4):
            error = self.refusal(bench.do, f"wrong {number}")
            self.assertEqual((type(error), error.value), (BadWrong, number))
        for line in ("wrong -0", "wrong 01", "wrong", "wrong ", "wrong 1/1", "wrong three", "wrong 1 "):
            self.refused(BadTask, line, bench.do, line)
        self.assertEqual(bench.deeds, 5)

    def test_reads_that_are_refused(self):
        bench = Bench((RULE,), 3, 0)
        for text in NOT_READING_TEXTS:
            line = "read " + text
            self.refused(BadTask, line, bench.do, line)
        for reading in (exact("a", 0, 1), exact("a", 0, 2), exact("a", 4), unsure("a", 3, 4), unsure("a", 1, 4)):
            error = self.refusal(bench.do, "read " + text_of(reading))
            self.assertEqual((type(error).__name__, error.value), ("BadReading", reading))
        self.assertEqual(bench.deeds, 0)
        # The seventh source, the fourth unsure one, the 25th READING.
        for line in [text_of(exact(name)) for name in "abcdef"] + [text_of(unsure(name)) for name in "abc"]:
            bench.do("read " + line)
        for reading in (exact("g"), unsure("d"), unsure("g")):
            error = self.refusal(bench.do, "read " + text_of(reading))
            self.assertEqual((type(error).__name__, error.value), ("BadReadings", bench.book.readings + (reading,)))
        bench.do("off 8")
        bench.do("read " + text_of(unsure("d")))
        bench = Bench((RULE,), 3, 0)
        for reading in TWENTY_FOUR:
            bench.do("read " + text_of(reading))
        error = self.refusal(bench.do, "read " + text_of(exact("a")))
        self.assertEqual((type(error).__name__, error.value), ("BadReadings", TWENTY_FOUR + (exact("a"),)))
        self.assertEqual((len(bench), bench.deeds), (24, 24))

    def test_lines_that_are_none(self):
        bench = Bench((RULE,), 3, 0)
        bench.do("read " + text_of(EXACT))
        bench.undo()
        for line in BAD_LINES + NOT_LINES:
            self.refused(BadTask, line, bench.do, line)
        # What was refused was no deed: it can be done again.
        bench.redo()
        self.assertEqual(bench.book.readings, (EXACT,))
        self.assertIsNone(bench.do(line="off 0"))

    def test_undo_and_redo_at_their_ends(self):
        shadow = Shadow((RULE,), 3, 1)
        self.undo(shadow)
        self.redo(shadow)
        for name in "ab":
            self.do(shadow, "read " + text_of(exact(name)))
        for _ in range(3):
            self.undo(shadow)
        self.do(shadow, "off 0")
        self.do(shadow, "wrong 4")
        self.do(shadow, "what")
        for _ in range(3):
            self.redo(shadow)
        self.undo(shadow)
        # Another deed: what was undone is gone.
        self.do(shadow, "wrong 0")
        self.redo(shadow)
        self.look(shadow)
        self.ends_look(shadow)

    def test_a_deed_that_changes_nothing_is_one(self):
        bench = Bench((RULE,), 3, 1)
        bench.do("wrong 1")
        self.assertEqual((bench.deeds, bench.book), (1, Book((RULE,), 3, (), 1)))
        self.assertTrue(bench != Bench((RULE,), 3, 1))
        bench.undo()
        self.assertTrue(bench == Bench((RULE,), 3, 1))

    def test_equal(self):
        one, other = Bench((RULE,), 3, 1), Bench((RULE,), 3, 1)
        self.assertTrue(one == other and not one != other)
        one.do("wrong 2")
        self.assertTrue(one != other)
        other.do("wrong 2")
        self.assertTrue(one == other)
        # The same book, but other deeds.
        one.do("wrong 1")
        one.do("wrong 2")
        self.assertTrue(one.book == other.book and one != other)
        # What is undone is in no journal.
        one.undo()
        one.undo()
        self.assertTrue(one == other)
        for same in (Bench((RULE,), 3, 2), Bench((RULE,), 2, 1), Bench((FLAT,), 3, 1), Bench((RULE, RULE), 3, 1)):
            self.assertTrue(same != Bench((RULE,), 3, 1))
        for value in OTHERS + (0, one.book, journal(one), (one,)):
            self.assertIs(one == value, False)
            self.assertIs(value == one, False)
            self.assertIs(one != value, True)

    def test_operators(self):
        bench = Bench((RULE,), 1, 0)
        for call in (lambda: bench < bench, lambda: bench + bench, lambda: bench * 2, lambda: list(bench),
                     lambda: bench[0], lambda: 0 in bench, lambda: -bench, lambda: bench >= 1):
            self.assertRaises(TypeError, call)

    def test_copies(self):
        bench = Bench((RULE,), 3, 0)
        for line in ("wrong 1", "wrong 2", "wrong 3"):
            bench.do(line)
        bench.undo()
        other = bench.copy()
        self.assertTrue(other == bench and other is not bench)
        other.redo()
        self.assertEqual((other.book.wrong, bench.book.wrong), (3, 2))
        bench.undo()
        bench.do("wrong 0")
        self.assertEqual((journal(other).split("\n")[3:], journal(bench).split("\n")[3:]),
                         (["deeds", "wrong 1", "wrong 2", "wrong 3"], ["deeds", "wrong 1", "wrong 0"]))


class Trials(Looks):
    def bench(self):
        bench = Bench((RULE,), 3, 0)
        for line in ("wrong 1", "wrong 2", "wrong 3"):
            bench.do(line)
        bench.undo()
        return bench

    def test_not_kept(self):
        for keep in NOT_TRUE:
            bench = self.bench()
            was = journal(bench)
            self.assertEqual(bench.tried(lambda one: one.do("wrong 0"), keep=keep), None)
            self.assertEqual((journal(bench), bench.deeds, bench.book.wrong), (was, 2, 2))
            bench.redo()
            self.assertEqual(bench.book.wrong, 3)
            self.refused(NothingToRedo, None, bench.redo)

    def test_kept(self):
        for look, keep in ((lambda one: one.do("wrong 0"), True),
                           (lambda one: (one.do("wrong 0"), one.keep()), False),
                           (lambda one: (one.keep(), one.do("wrong 0")), None),
                           (lambda one: (one.keep(), one.do("wrong 0"), one.keep()), True)):
            bench = self.bench()
            bench.tried(look, keep=keep)
            self.assertEqual((bench.deeds, bench.book.wrong), (3, 0))
            self.refused(NothingToRedo, None, bench.redo)
            self.refused(NoBlock, None, bench.keep)
            bench.undo()
            self.assertEqual((bench.deeds, bench.book.wrong), (2, 2))

    def test_keep_alone(self):
        bench = self.bench()
        self.assertIsNone(bench.tried(lambda one: one.do("wrong 0")))
        self.assertIsNone(bench.tried(lambda one: one.keep()))
        self.assertEqual(bench.book.wrong, 2)
        bench.redo()

    def test_keep_is_by_name_alone(self):
        bench = self.bench()
        self.assertRaises(TypeError, lambda: bench.tried(lambda one: one.do("wrong 0"), True))
        self.assertEqual(bench.book.wrong, 2)

    def test_what_look_returns(self):
        bench = self.bench()
        for value in (None, 3, "x", (bench,), [1]):
            self.assertIs(bench.tried(lambda one: value), value)
            self.assertIs(bench.tried(look=lambda one: value, keep=True), value)
        self.assertIs(bench.tried(lambda one: one), bench)

    def test_errors_pass_on(self):
        for kind, value in ((BadTask, "wrong x"), (NoBlock, None), (FitError, 3), (Stop, "x"), (KeyError, "y"),
                            (KeyboardInterrupt, 1), (StopIteration, 2), (ZeroDivisionError, 3), (SystemExit, 0)):
            for keep in (True, False):
                bench = self.bench()
                was = journal(bench)
                error = kind(value)

                def look(one):
                    one.do("wrong 0")
                    one.keep()
                    one.undo()
                    one.undo()
                    raise error

                with self.assertRaises(kind) as held:
                    bench.tried(look, keep=keep)
                self.assertIs(held.exception, error)
                self.assertEqual((journal(bench), bench.deeds, bench.book.wrong), (was, 2, 2))
                self.refused(NoBlock, None, bench.keep)
                bench.redo()
                self.assertEqual(bench.book.wrong, 3)

    def test_refused_deeds_in_a_trial(self):
        bench = self.bench()
        error = self.refusal(lambda: bench.tried(lambda one: (one.do("wrong 0"), one.do("off 0")), keep=True))
        self.assertEqual((type(error).__name__, error.value, bench.book.wrong), ("NoReading", 0, 2))

        def look(one):
            one.do("wrong 0")
            self.refusal(one.do, "wrong 9")
            return one.deeds

        self.assertEqual(bench.tried(look, keep=True), 3)
        self.assertEqual((bench.book.wrong, bench.deeds), (0, 3))

    def test_undo_and_redo_go_on_to_what_was_done_ahead(self):
        bench = self.bench()
        self.assertIsNone(bench.tried(lambda one: (one.undo(), one.undo()), keep=True) and None)
        self.assertEqual((bench.deeds, bench.book.wrong), (0, 0))
        bench.tried(lambda one: (one.redo(), one.redo(), one.redo()), keep=True)
        self.assertEqual((bench.deeds, bench.book.wrong), (3, 3))
        bench.tried(lambda one: [one.undo() for _ in range(3)])
        self.assertEqual((bench.deeds, bench.book.wrong), (3, 3))
        self.refused(NothingToRedo, None, bench.redo)
        self.refused(NothingToUndo, None, lambda: bench.tried(lambda one: [one.undo() for _ in range(4)], keep=True))
        self.assertEqual(bench.deeds, 3)

    def test_trials_in_trials(self):
        for outer, inner, left in ((True, True, (0, 1)), (True, False, (1,)), (False, True, ()), (False, False, ())):
            bench = Bench((RULE,), 3, 0)

            def look(one):
                one.do("wrong 0")
                one.tried(lambda other: other.do("wrong 1"), keep=inner)

            bench.tried(look, keep=outer)
            told = journal(bench).split("\n")[4:]
            self.assertEqual(told, ["wrong 0", "wrong 1"][:len(left)] if len(left) != 1 else ["wrong 0"])

    def test_keep_is_that_of_the_innermost(self):
        bench = Bench((RULE,), 3, 0)

        def inner(one):
            one.do("wrong 1")
            one.keep()

        def outer(one):
            one.do("wrong 2")
            one.tried(inner)
            self.assertEqual((one.deeds, one.book.wrong), (2, 1))

        bench.tried(outer)
        self.assertEqual((bench.deeds, bench.book.wrong), (0, 0))

        def keeps_ahead(one):
            one.keep()
            one.do("wrong 2")
            one.tried(lambda other: other.do("wrong 3"))
            self.assertEqual(one.book.wrong, 2)

        bench.tried(keeps_ahead)
        self.assertEqual((bench.deeds, bench.book.wrong), (1, 2))

        def keeps_behind(one):
            one.tried(lambda other: other.do("wrong 3"))
            one.tried(lambda other: other.undo(), keep=True)
            one.keep()

        bench.tried(keeps_behind)
        self.assertEqual((bench.deeds, bench.book.wrong), (0, 0))
        bench.redo()
        self.assertEqual(bench.book.wrong, 2)

    def test_an_error_in_the_inner_one_that_is_caught(self):
        bench = Bench((RULE,), 3, 0)

        def inner(one):
            one.do("wrong 1")
            one.keep()
            raise Stop

        def outer(one):
            one.do("wrong 2")
            self.assertRaises(Stop, lambda: one.tried(inner, keep=True))
            self.assertEqual((one.deeds, one.book.wrong), (1, 2))
            one.do("wrong 3")

        bench.tried(outer)
        self.assertEqual(bench.deeds, 0)
        bench.tried(outer, keep=True)
        self.assertEqual((bench.deeds, bench.book.wrong), (2, 3))

    def test_copies_within(self):
        bench = self.bench()

        def look(one):
            one.do("wrong 0")
            other = one.copy()
            self.refused(NoBlock, None, other.keep)
            other.do("wrong 1")
            self.assertEqual((one.deeds, other.deeds), (3, 4))
            return other

        other = bench.tried(look)
        self.assertEqual((bench.deeds, other.deeds), (2, 4))
        other.undo()
        other.undo()
        self.assertEqual(other, bench)
        # Two Benches, each with a trial of its own.
        one, two = self.bench(), self.bench()

        def both(bench):
            self.refused(NoBlock, None, two.keep)
            two.do("wrong 0")
            bench.do("wrong 1")
            two.tried(lambda some: (some.do("wrong 1"), some.keep()))

        one.tried(both)
        self.assertEqual((one.deeds, two.deeds), (2, 4))

    def test_a_look_that_cannot_be_called(self):
        bench = self.bench()
        self.assertRaises(TypeError, lambda: bench.tried(3, keep=True))
        self.assertRaises(TypeError, lambda: bench.tried(lambda: None))
        self.assertEqual(bench.book.wrong, 2)
        self.refused(NoBlock, None, bench.keep)

    def test_errors_by_name(self):
        for name in ("NothingToUndo", "NothingToRedo", "NoBlock", "BadTask"):
            self.assertTrue(issubclass(getattr(errors, name), FitError))


if __name__ == "__main__":
    unittest.main()
