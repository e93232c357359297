"""Section 16: journals."""

import random
import unittest

from allcoursesfit.benches import Bench
from allcoursesfit.errors import BadJournal, NothingToUndo
from allcoursesfit.journals import journal, read_journal
from tests.hands import BAD_LINES, Shadow, drawn_line, text_of
from tests.wrong import OTHERS, Refusals
from tests.wrong_books import FLAT, NOT_READING_TEXTS, ONE, RULE, SIX, TWENTY_FOUR, exact, unsure

HEADING = "rule 0 10 -2 2 -1 1\nlast 3\nwrong 1\ndeeds"


class Journals(Refusals):
    def fault(self, number, text):
        error = self.refusal(read_journal, text)
        self.assertEqual((type(error), error.value, type(error.value)), (BadJournal, number, int), text)

    def drawn(self, R, turn):
        """A Bench, as a Shadow, with drawn deeds."""
        rules = ((RULE,), (RULE, FLAT), (FLAT, RULE, (-9, 9, -3, 3, -2, 2)))[turn % 3]
        shadow = Shadow(rules, turn % 6, turn % 4)
        for _ in range(R.randint(0, 15)):
            line = drawn_line(R, rules, shadow.last)
            if shadow.expected(line)[0] != "refused":
                shadow.bench.do(line)
                shadow.done += (line,)
        return shadow

    def test_there_and_back(self):
        R = random.Random(361)
        for turn in range(60):
            shadow = self.drawn(R, turn)
            text = journal(shadow.bench)
            self.assertEqual(text, shadow.journal())
            other = read_journal(text)
            self.assertIs(type(other), Bench)
            self.assertTrue(other == shadow.bench)
            self.assertEqual((other.book, other.deeds, len(other), other.rules, other.last),
                             (shadow.book(), len(shadow.done), len(shadow.book().readings), shadow.rules, shadow.last))
            self.assertEqual(journal(other), text)
            # They undo the same, and do the same again.
            for _ in range(shadow.bench.deeds):
                other.undo()
                shadow.bench.undo()
                self.assertEqual((other, other.book), (shadow.bench, shadow.bench.book))
            self.refused(NothingToUndo, None, other.undo)
            for _ in range(len(shadow.done)):
                other.redo()
                shadow.bench.redo()
            self.assertEqual((other, other.book), (shadow.bench, shadow.bench.book))

    def test_as_it_was_at_first(self):
        bench = Bench((RULE, FLAT), 3, 2)
        first = "rule 0 10 -2 2 -1 1\nrule 3 3 0 0 0 0\nlast 3\nwrong 2\ndeeds"
        self.assertEqual(journal(bench), first)
        lines = ("wrong 0", "read " + text_of(exact("a")), "read " + text_of(unsure("b", 0, 3)), "off 0", "wrong 3")
        for line in lines:
            bench.do(line)
        self.assertEqual(journal(bench), "\n".join((first,) + lines))
        bench.undo()
        bench.undo()
        self.assertEqual(journal(bench), "\n".join((first,) + lines[:3]))
        self.assertEqual(read_journal(text=journal(bench=bench)), bench)

    def test_no_deeds(self):
        bench = read_journal(HEADING)
        self.assertEqual((bench, bench.deeds, bench.book.wrong), (Bench((RULE,), 3, 1), 0, 1))
        self.refused(NothingToUndo, None, bench.undo)

    def test_no_string(self):
        for wrong in [value for value in OTHERS if not isinstance(value, str)] + [0, 1, (), HEADING.split("\n"), ONE,
                                                                                  read_journal(HEADING)]:
            self.fault(0, wrong)

    def test_lines_missing(self):
        lines = HEADING.split("\n")
        for many in range(1, 4):
            self.fault(many + 1, "\n".join(lines[:many]))
        self.fault(1, "")
        two = ["rule 0 10 -2 2 -1 1"] * 2
        for many in range(1, 5):
            self.fault(many + 1, "\n".join((two + lines[1:])[:many]))
        three = two + ["rule 3 3 0 0 0 0"]
        for many in range(1, 6):
            self.fault(many + 1, "\n".join((three + lines[1:])[:many]))
        self.assertEqual(read_journal("\n".join(three + lines[1:])).rules, (RULE, RULE, FLAT))

    def test_a_line_feed_at_the_end(self):
        self.fault(5, HEADING + "\n")
        self.fault(6, HEADING + "\nwrong 0\n")
        for many in (1, 2, 3):
            self.fault(many + 1, "\n".join(HEADING.split("\n")[:many]) + "\n")
        self.fault(1, "\n")
        self.fault(1, "\n" + HEADING)

    def test_headings_that_cannot_stand(self):
        lines = HEADING.split("\n")
        for at, others in (
                (0, ("", "rule", "rule 0 10 -2 2 -1", "rule 0 10 -2 2 -1 1 1", "rule 10 0 -2 2 -1 1",
                     "rule 0 1001 -2 2 -1 1",
                     "rule 0 10 -2 2 -1 1 ", " rule 0 10 -2 2 -1 1", "rule  0 10 -2 2 -1 1", "Rule 0 10 -2 2 -1 1",
                     "rule 0 10 -2 2 1 -1", "rule 00 10 -2 2 -1 1", "rule -0 10 -2 2 -1 1", "rule a b c d e f",
                     "last 3",
                     "deeds", "rule (0, 10, -2, 2, -1, 1)", "rule 0 10 -2 2 -1 1/1", "wrong 1")),
                (1, ("", "last", "last ", "last 13", "last -1", "last 03", "last 3 ", "last  3", "Last 3", "last 3 3",
                     "wrong 1", "deeds", "last x", "rule 0 10 -2 2", "last -0", "read " + text_of(exact("a")))),
                (2, ("", "wrong", "wrong 4", "wrong -1", "wrong 01", "wrong 1 ", "wrong  1", "Wrong 1", "wrong 1 1",
                     "deeds", "last 3", "wrong x", "read " + text_of(exact("a")))),
                (3, ("", "deed", "deeds ", " deeds", "Deeds", "deeds 0", "deeds:", "wrong 1", "off 0", "done",
                     "read " + text_of(exact("a"))))):
            for other in others:
                for behind in ([], ["wrong 0"]):
                    self.fault(at + 1, "\n".join(lines[:at] + [other] + lines[at + 1:] + behind))
        # A fourth RULE.
        self.fault(4, "\n".join(lines[:1] * 4 + lines[1:]))
        self.fault(5, HEADING + "\ndeeds")
        self.fault(3, lines[0] + "\n" + lines[1] + "\n" + HEADING)

    def test_deeds_that_cannot_stand(self):
        ahead = "\nwrong 2\nread " + text_of(exact("a")) + "\nread " + text_of(unsure("b"))
        for line in [line for line in BAD_LINES if "\n" not in line] + ["off 2", "off -1", "off 3", "wrong 4",
                                                                         "wrong -1"]:
            for behind in ("", "\nwrong 0", "\nwhat"):
                self.fault(8, HEADING + ahead + "\n" + line + behind)
        for text in NOT_READING_TEXTS:
            if "\n" not in text:
                self.fault(8, HEADING + ahead + "\nread " + text)
        # What can stand in a book of more axes, or of a greater LAST.
        for reading in (exact("a", 4), exact("a", 0, 1), exact("a", 0, 2), unsure("a", 1, 4)):
            self.fault(8, HEADING + ahead + "\nread " + text_of(reading))
        self.fault(8, HEADING + ahead + "\nundo")

    def test_too_many_readings(self):
        lines = ["read " + text_of(reading) for reading in TWENTY_FOUR]
        self.assertEqual(len(read_journal("\n".join([HEADING] + lines))), 24)
        self.fault(29, "\n".join([HEADING] + lines + lines[:1]))
        self.assertEqual(len(read_journal("\n".join([HEADING] + lines + ["off 0"] + lines[:1]))), 24)
        six = ["read " + text_of(reading) for reading in SIX]
        self.fault(11, "\n".join([HEADING] + six + ["read " + text_of(exact("g"))]))
        three = ["read " + text_of(unsure(name)) for name in "aab"]
        self.fault(8, "\n".join([HEADING] + three + ["read " + text_of(unsure("c"))]))

    def test_the_first_line_that_cannot_stand(self):
        R = random.Random(362)
        for turn in range(60):
            shadow = self.drawn(R, turn)
            lines = shadow.journal().split("\n")
            heading = len(shadow.rules) + 3
            at = R.randint(heading, len(lines))
            bad = R.choice(("what", "", "off 24", "wrong 9", "undo", "read x", "deeds", " wrong 1"))
            self.fault(at + 1, "\n".join(lines[:at] + [bad] + lines[at:]))
            self.fault(at + 1, "\n".join(lines[:at] + [bad, bad] + lines[at:]))
            # Without its first deed the next ones may not stand: the first of them is told.
            left = lines[:heading] + lines[heading + 1:]
            book, number = Shadow(shadow.rules, shadow.last, shadow.wrong), 0
            for place, line in enumerate(left[heading:], start=heading + 1):
                if book.expected(line)[0] == "refused":
                    number = place
                    break
                book.done += (line,)
            if number:
                self.fault(number, "\n".join(left))
            else:
                self.assertEqual(journal(read_journal("\n".join(left))), "\n".join(left))


if __name__ == "__main__":
    unittest.main()
