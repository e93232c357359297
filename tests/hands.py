"""A Bench in other words: lines alone, done anew from the beginning; for the tests to compare with."""

import re

from allcoursesfit.benches import Bench
from allcoursesfit.books import Book
from tests.drawn_books import WEIGHTS, drawn_ticks

WHOLE = r"(0|-?[1-9][0-9]*)"


def text_of(reading):
    """A READING's text, told anew."""
    source, axis, first, last, p, q, low, high = reading
    ticks = f"{first}" if first == last else f"{first}..{last}"
    low, high = ["" if one is None else str(one) for one in (low, high)]
    return f"{source} {axis} {ticks} {p} {q} {low}..{high}"


def reading_of(text):
    """The READING that has this text, None if none has."""
    told = re.fullmatch(r"([a-z][a-z0-9]{0,7}) ([0-2]) (\d+)(?:\.\.(\d+))? (-?\d) (-?\d) (-?\d{1,4})?\.\.(-?\d{1,4})?",
                        text)
    if told is None:
        return None
    first = int(told[3])
    last = first if told[4] is None else int(told[4])
    low, high = [None if one is None else int(one) for one in (told[7], told[8])]
    reading = (told[1], int(told[2]), first, last, int(told[5]), int(told[6]), low, high)
    bad = text_of(reading) != text or last > 12 or not first <= last <= first + 3 or (reading[4], reading[5]) == (0, 0)
    bad = bad or low is None and high is None or None not in (low, high) and low > high
    return None if bad else reading


def are_some(readings):
    """Whether these READINGS can stand together."""
    return (len(readings) <= 24 and len({one[0] for one in readings}) <= 6
            and len([one for one in readings if one[2] != one[3]]) <= 3)


def done_to(rules, last, readings, wrong, line):
    """(readings, wrong) behind a line, or the name of the error and its value, behind "refused"."""
    word, _, text = line.partition(" ")
    if word == "read" and reading_of(text) is not None:
        reading = reading_of(text)
        if reading[1] >= len(rules) or reading[3] > last:
            return ("refused", "BadReading", reading)
        if not are_some(readings + (reading,)):
            return ("refused", "BadReadings", readings + (reading,))
        return (readings + (reading,), wrong)
    number = re.fullmatch(WHOLE, text)
    if word in ("off", "wrong") and number:
        number = int(text)
        if word == "wrong":
            return (readings, number) if 0 <= number <= 3 else ("refused", "BadWrong", number)
        if not 0 <= number < len(readings):
            return ("refused", "NoReading", number)
        return (readings[:number] + readings[number + 1:], wrong)
    return ("refused", "BadTask", line)


BAD_LINES = (
    "", " ", "read", "read ", "off", "off ", "wrong", "wrong ", "undo", "redo", "fits", "read 3", "read 0", "off -0",
    "off 01",
    "off +1", "off 1 ", " off 1", "off  1", "off 1 2", "off 1\n", "\noff 1", "Off 1", "off one", "off 1.0", "off 1/1",
    "wrong 01", "wrong -0", "wrong 1 ", "wrong  1", "wrong 1 1", "wrong x", "wrong 1\n", "off\n1", "deeds", "rule",
    "read ear 0 1 1 0 ..1 ", "read  ear 0 1 1 0 ..1", "read ear 0 1 1 0 ..1\n", "read ear 0 1..1 1 0 ..1",
    "read ear 3 1 1 0 ..1", "read ear 0 13 1 0 ..1", "read ear 0 1 0 0 ..1", "read ear 0 1 1 0 ..", "read Ear 0 1 1 0 ..1",
    "read ear 0 1 1 0 2..1", "read ear 0 1..5 1 0 2..", "ear 0 1 1 0 ..1", "last 3", "wrong: 1", "source a",
    "bounds 0 1 1 0", "middle 0 1 1 0", "rule 0 9 -1 2 -1 1",
)


def drawn_line(R, rules, last):
    """A line for a Bench, mostly one that can be done."""
    word = R.random()
    if word < 0.15:
        return f"off {R.randint(-1, 4)}"
    if word < 0.25:
        return f"wrong {R.randint(-1, 4)}"
    if word < 0.33:
        return R.choice(BAD_LINES)
    low = R.randint(-3, 6)
    bounds = R.choice(((low, None), (None, low), (low, low + 2)))
    first, end = drawn_ticks(R, min(12, last + (R.random() < 0.1)), R.random() < 0.3)
    axis = min(2, R.randrange(len(rules)) + (R.random() < 0.05))
    return "read " + text_of((R.choice("abcdefg"), axis, first, end) + R.choice(WEIGHTS) + bounds)


class Shadow:
    """A Bench, and the lines that are expected to stand, and to be undone."""

    def __init__(self, rules, last, wrong):
        self.bench = Bench(rules, last, wrong)
        self.rules, self.last, self.wrong = rules, last, wrong
        self.done, self.undone = (), ()

    def twin(self, bench):
        """One of the same kind for another Bench, alike in all things."""
        other = Shadow(self.rules, self.last, self.wrong)
        other.bench, other.done, other.undone = bench, self.done, self.undone
        return other

    def told(self):
        """(readings, wrong) by the lines that stand."""
        readings, wrong = (), self.wrong
        for line in self.done:
            readings, wrong = done_to(self.rules, self.last, readings, wrong, line)
        return readings, wrong

    def book(self):
        readings, wrong = self.told()
        return Book(self.rules, self.last, readings, wrong)

    def expected(self, line):
        return done_to(self.rules, self.last, *self.told(), line)

    def journal(self):
        lines = ["rule " + " ".join([str(one) for one in rule]) for rule in self.rules]
        return "\n".join(lines + [f"last {self.last}", f"wrong {self.wrong}", "deeds", *self.done])
