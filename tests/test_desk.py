"""Section 16: a Desk."""

import random
import unittest
from fractions import Fraction

from allcoursesfit.benches import Bench
from allcoursesfit.bounds import bounds, middle
from allcoursesfit.desk import Desk
from allcoursesfit.errors import (BadForm, BadJournal, BadNumber, BadTask, NoReading, NoSource, NothingToRedo,
                                  NothingToUndo)
from allcoursesfit.journals import journal, read_journal
from allcoursesfit.lots import is_empty
from allcoursesfit.sure import word_at, word_of
from tests.hands import BAD_LINES, Shadow, drawn_line, text_of
from tests.test_benches import NOT_LINES
from tests.wrong import OTHERS, Refusals
from tests.wrong_books import FLAT, NOT_NAMES, RULE, exact

TEXT = "rule 0 10 -2 2 -1 1\nlast 3\nwrong 1\ndeeds"
ASKED = ("undo", "redo", "fits", "read 0", "read -1", "read 99", "source a", "source zz", "bounds 0 1 1 0",
         "middle 0 1 1 0")


def told_text(told):
    """Two FRACTIONS as texts, told anew."""
    return "none" if told is None else " ".join([str(Fraction(*number)) for number in told[:2]])


class Lines(Refusals):
    def raised(self, kind, value, desk, line):
        was = (journal(desk.bench), desk.bench.book)
        error = self.refusal(desk.say, line)
        self.assertEqual((type(error), error.value), (kind, value), line)
        self.assertEqual((journal(desk.bench), desk.bench.book), was)

    def asks_look(self, R, desk):
        """All that can be asked, by the functions that are named for it; nothing is changed."""
        book, was = desk.bench.book, journal(desk.bench)
        self.assertEqual(desk.say("fits"), "no" if is_empty(book) else "yes")
        for source in "abcdefg":
            if source in book.sources:
                self.assertEqual(desk.say("source " + source), word_of(book, source))
            else:
                self.raised(NoSource, source, desk, "source " + source)
        for number in range(-1, len(book.readings) + 2):
            if 0 <= number < len(book.readings):
                self.assertEqual(desk.say(f"read {number}"), word_at(book, number))
            else:
                self.raised(BadNumber, number, desk, f"read {number}")
        for _ in range(4):
            form = (R.randrange(len(book.rules)), R.randint(0, book.last), R.randint(-9, 9), R.randint(-9, 9))
            if form[2:] != (0, 0):
                words = " ".join(map(str, form))
                self.assertEqual(desk.say("bounds " + words), told_text(bounds(book, form)))
                self.assertEqual(desk.say("middle " + words), told_text(middle(book, form)))
        self.assertEqual((journal(desk.bench), desk.bench.book), (was, book))

    def test_drawn_lines(self):
        R = random.Random(371)
        found = []
        for turn in range(60):
            shadow = Shadow((RULE, (-5, 5, -2, 2, 0, 1))[:1 + turn % 2], turn % 4, turn % 4)
            desk = Desk(shadow.journal())
            bench = desk.bench
            for _ in range(12):
                line = R.choice(("undo", "redo", "", drawn_line(R, shadow.rules, shadow.last)))
                line = line or drawn_line(R, shadow.rules, shadow.last)
                self.say(desk, shadow, line)
                self.assertIs(desk.bench, bench)
                self.assertEqual((journal(bench), bench.book), (shadow.journal(), shadow.book()))
            self.asks_look(R, desk)
            found.append(desk.say("fits"))
        self.assertGreater(found.count("yes"), 20)
        self.assertGreater(found.count("no"), 5)

    def say(self, desk, shadow, line):
        """Says a line that is to be done, and looks at what comes of it."""
        if line == "undo" and shadow.done:
            shadow.done, shadow.undone = shadow.done[:-1], shadow.undone + shadow.done[-1:]
        elif line == "redo" and shadow.undone:
            shadow.done, shadow.undone = shadow.done + shadow.undone[-1:], shadow.undone[:-1]
        elif line in ("undo", "redo"):
            self.raised(NothingToUndo if line == "undo" else NothingToRedo, None, desk, line)
            return
        elif line in ASKED or shadow.expected(line)[0] == "refused":
            told = shadow.expected(line)
            if line not in ASKED and not line.startswith(("bounds", "middle", "source", "read 3")):
                error = self.refusal(desk.say, line)
                self.assertEqual((type(error).__name__, error.value), told[1:])
            return
        else:
            shadow.done, shadow.undone = shadow.done + (line,), ()
        self.assertEqual(desk.say(line), "done")

    def test_fits(self):
        desk = Desk(TEXT)
        self.assertEqual(desk.say("fits"), "yes")
        desk.say("read a 0 0 1 0 11..")
        self.assertEqual(desk.say("fits"), "yes")
        desk.say("wrong 0")
        self.assertEqual(desk.say("fits"), "no")
        self.assertEqual([desk.say(line) for line in ("source a", "read 0", "bounds 0 0 1 0", "middle 0 3 0 -9")],
                         ["none"] * 4)

    def test_sources(self):
        desk = Desk(TEXT + "\nread a 0 0 1 0 11..\nread b 0 0 1 0 ..5\nread c1 0 0 0 1 1..")
        self.assertEqual([desk.say("source " + name) for name in ("a", "b", "c1")], ["wrong", "right", "right"])
        for name in ("d", "c", "c12", "radar", "ninesign"):
            self.raised(NoSource, name, desk, "source " + name)
        for text in [name for name in NOT_NAMES if isinstance(name, str)] + ["a b", " a", "a ", "", "A"]:
            self.raised(BadTask, "source " + text, desk, "source " + text)
        for line in ("source", "source  a", "Source a", "sources a", "source a\n", "source\na", "source a b"):
            self.raised(BadTask, line, desk, line)

    def test_numbers_and_readings_beside_one_another(self):
        desk = Desk(TEXT)
        self.raised(BadNumber, 0, desk, "read 0")
        self.assertEqual(desk.say("read a 0 0 1 0 11.."), "done")
        self.assertEqual(desk.say("read 0"), "barred")
        self.assertEqual(desk.say("read b 0 0 1 0 0.."), "done")
        self.assertEqual([desk.say("read 1"), desk.say("read 0")], ["kept", "barred"])
        for number in (-1, 2, 24, 999999999, -999999999):
            self.raised(BadNumber, number, desk, f"read {number}")
        for line in ("read", "read ", "read 00", "read 01", "read -0", "read +0", "read 0 ", "read 0 1", "read  0",
                     "read 0..1", "read 1/1", "read x", "read 0\n", "read a 0 0 1 0", "read 0 0 0 1 0 11.."):
            self.raised(BadTask, line, desk, line)
        self.assertEqual(len(desk.bench), 2)

    def test_bounds_and_middle(self):
        desk = Desk("rule 0 10 -1 1 0 0\nrule 3 3 0 0 0 0\nlast 2\nwrong 0\ndeeds\nread a 0 0 1 0 2..4")
        for words, ends, half in (("0 2 1 0", "0 6", "3 3"), ("0 0 2 0", "4 8", "6 2"), ("0 1 0 -3", "-3 3", "0 3"),
                                  ("0 1 1 1", "0 6", "3 3"), ("1 2 9 -9", "27 27", "27 0"), ("0 1 -1 0", "-5 -1",
                                      "-3 2"),
                                  ("0 0 9 9", "9 45", "27 18"), ("0 0 1 0", "2 4", "3 1"), ("0 1 5 0", "5 25", "15 10")):
            self.assertEqual((desk.say("bounds " + words), desk.say("middle " + words)), (ends, half))
        desk.say("read a 0 0 3 0 7..8")
        self.assertEqual((desk.say("bounds 0 0 1 0"), desk.say("middle 0 0 1 0")), ("7/3 8/3", "5/2 1/6"))
        for word in ("bounds", "middle"):
            for form in ((2, 0, 1, 0), (-1, 0, 1, 0), (0, 3, 1, 0), (0, -1, 1, 0), (0, 13, 0, 1), (99, 99, -9, 9),
                         (999999999, -999999999, 1, 0)):
                self.raised(BadForm, form, desk, word + " " + " ".join(map(str, form)))
            for words in ("0 0 0 0", "0 0 10 0", "0 0 -10 0", "0 0 0 10", "0 0 0 -10", "9 9 0 0", "9 9 10 1",
                          "0 0 999999999 0",
                          "0 0 1", "0 0 1 0 0", "", "0", "0 0 01 0", "0 00 1 0", "0 0 1 -0", "-0 0 1 0", "+0 0 1 0",
                          "0  0 1 0",
                          "0 0 1 0 ", " 0 0 1 0", "0 0 1 x", "0 0 1/2 0", "a 0 1 0", "0 0 1 0\n", "0 0\n1 0",
                          "0,0,1,0", "(0, 0, 1, 0)"):
                self.raised(BadTask, word + " " + words, desk, word + " " + words)
            for line in (word, word.upper() + " 0 0 1 0", word + "s 0 0 1 0", " " + word + " 0 0 1 0"):
                self.raised(BadTask, line, desk, line)

    def test_undo_and_redo(self):
        desk = Desk(TEXT)
        self.raised(NothingToUndo, None, desk, "undo")
        self.raised(NothingToRedo, None, desk, "redo")
        self.assertEqual([desk.say(line) for line in ("wrong 0", "undo", "redo", "undo")], ["done"] * 4)
        self.assertEqual(desk.bench.book.wrong, 1)
        self.raised(NothingToUndo, None, desk, "undo")
        # What asks is no deed, neither is what was refused.
        desk.say("fits")
        self.raised(NoReading, 0, desk, "off 0")
        self.assertEqual(desk.say("redo"), "done")
        for line in ("undo ", " undo", "Undo", "undo 1", "redo ", "undo\n", "redo\n", "\nredo"):
            self.raised(BadTask, line, desk, line)

    def test_lines_that_are_none(self):
        desk = Desk(TEXT + "\nread a 0 0 1 0 2..4")
        desk.bench.do("wrong 0")
        desk.bench.undo()
        known = ("undo", "redo", "fits", "read 0", "read 3", "source a", "bounds 0 1 1 0", "middle 0 1 1 0")
        for line in BAD_LINES + NOT_LINES:
            if line not in known:
                self.raised(BadTask, line, desk, line)
        for line in ("fits ", " fits", "Fits", "fits 0", "fits\n", "word a", "can_be", "help"):
            self.raised(BadTask, line, desk, line)
        self.assertEqual(desk.say("redo"), "done")
        self.assertEqual(desk.say(line="fits"), "yes")

    def test_deeds_at_its_bench_by_other_hands(self):
        desk = Desk(TEXT)
        bench = desk.bench
        bench.do("read " + text_of(exact("a", 0, 0, 2, 4)))
        self.assertEqual(desk.say("bounds 0 0 1 0"), "0 10")
        self.assertEqual(desk.say("wrong 0"), "done")
        self.assertEqual(desk.say("bounds 0 0 1 0"), "2 4")
        self.assertEqual((bench.deeds, bench.book.wrong), (2, 0))
        bench.undo()
        self.assertEqual(desk.say("bounds 0 0 1 0"), "0 10")
        self.assertEqual(desk.say("redo"), "done")
        told = bench.tried(lambda one: (desk.say("off 0"), desk.say("bounds 0 0 1 0"), len(one)))
        self.assertEqual(told, ("done", "0 10", 0))
        self.assertEqual((desk.say("bounds 0 0 1 0"), len(bench)), ("2 4", 1))
        bench.tried(lambda one: desk.say("off 0"), keep=True)
        self.assertEqual(desk.say("bounds 0 0 1 0"), "0 10")
        self.assertIs(desk.bench, bench)
        self.assertIs(type(bench), Bench)

    def test_created(self):
        desk = Desk(text=TEXT)
        self.assertIn("bench", vars(desk))
        self.assertEqual(desk.bench, read_journal(TEXT))
        for value in [value for value in OTHERS if not isinstance(value, str)] + [0, (), desk.bench]:
            error = self.refusal(Desk, value)
            self.assertEqual((type(error), error.value), (BadJournal, 0))
        for text, number in (("", 1), (TEXT + "\n", 5), (TEXT + "\nfits", 5), (TEXT + "\nwrong 0\nundo", 6),
                             ("rule 0 10 -2 2 -1 1", 2), (TEXT.replace("last 3", "last 13"), 2),
                             (TEXT + "\nread 0", 5)):
            error = self.refusal(Desk, text)
            self.assertEqual((type(error), error.value), (BadJournal, number))

    def test_great_answers(self):
        # The same as the functions tell, however many figures there are.
        rules = "rule -1000 1000 -1000 1000 -1000 1000\n" * 2 + "last 12\nwrong 0\ndeeds"
        desk = Desk(rules + "\nread a 1 0 7 9 9998..9999\nread b 1 7 9 -7 -9999..-9998\nread c 1 12 -9 8 1..1")
        for words in ("1 6 1 0", "1 3 9 -7", "1 12 0 1"):
            form = tuple(map(int, words.split()))
            self.assertEqual(desk.say("bounds " + words), told_text(bounds(desk.bench.book, form)))
            self.assertEqual(desk.say("middle " + words), told_text(middle(desk.bench.book, form)))

    def test_flat(self):
        desk = Desk("rule 3 3 0 0 0 0\nlast 0\nwrong 3\ndeeds\nread a 0 0 1 0 3..3\nread b 0 0 1 0 4..")
        self.assertEqual([desk.say(line) for line in ("source a", "source b", "bounds 0 0 1 0")],
                         ["right", "wrong", "3 3"])
        self.assertEqual(desk.bench.rules, (FLAT,))


if __name__ == "__main__":
    unittest.main()
