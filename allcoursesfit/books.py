"""BOOKS: RULES, LAST, READINGS, and how many of their sources may be wrong; MOTIONS and WORLDS by them."""

from allcoursesfit.errors import BadBook, BadReading, NoBook, NoReading
from allcoursesfit.headings import heading_lines, read_heading
from allcoursesfit.limits import is_from_to, need_last, need_rules, need_wrong
from allcoursesfit.paths import is_path
from allcoursesfit.readings import are_readings, first_held, is_reading, names_of, need_readings
from allcoursesfit.readings import read_reading_words, words_of_reading


def bears(rules, last, reading):
    """Whether a READING is of one of the RULES' axes, and of ticks up to last."""
    return reading[1] < len(rules) and reading[3] <= last


def book_lines(rules, last, readings, wrong):
    """The list of the lines of a BOOK's text."""
    return heading_lines(rules, last, wrong) + ["read " + words_of_reading(reading) for reading in readings]


class Book:
    """RULES, LAST, READINGS and WRONG: all that one has to go by; it never changes."""

    def __init__(self, rules, last, readings, wrong):
        need_rules(rules)
        need_last(last)
        need_readings(readings)
        for reading in readings:
            if not bears(rules, last, reading):
                raise BadReading(reading)
        need_wrong(wrong)
        self.rules = rules
        self.last = last
        self.readings = readings
        self.wrong = wrong
        self.sources = tuple(names_of(readings))
        self.text = "\n".join(book_lines(rules, last, readings, wrong))

    def __eq__(self, other):
        return isinstance(other, Book) and self.text == other.text


def need_book(value):
    """Raises NoBook unless value is a BOOK."""
    if not isinstance(value, Book):
        raise NoBook(value)


def read_line(rules, last, line):
    """The READING that a line of a BOOK's text tells, None if it can tell none there."""
    word, blank, text = line.partition(" ")
    if word != "read":
        return None
    reading = read_reading_words(text)
    if reading is None or not bears(rules, last, reading):
        return None
    return reading


def read_book(text):
    """The BOOK that has this text."""
    if not isinstance(text, str):
        raise BadBook(0)
    lines = text.split("\n")
    rules, last, wrong, fault = read_heading(lines)
    if fault != 0:
        raise BadBook(fault)
    readings = ()
    heading = len(rules) + 2
    for number, line in enumerate(lines[heading:], start=heading + 1):
        reading = read_line(rules, last, line)
        readings = readings + (reading,)
        if not are_readings(readings):
            raise BadBook(number)
    return Book(rules, last, readings, wrong)


def more(book, reading):
    """The BOOK with this READING behind the others."""
    need_book(book)
    if not is_reading(reading) or not bears(book.rules, book.last, reading):
        raise BadReading(reading)
    return Book(book.rules, book.last, book.readings + (reading,), book.wrong)


def without(book, number):
    """The BOOK without this one of its READINGS."""
    need_book(book)
    if not is_from_to(number, 0, len(book.readings) - 1):
        raise NoReading(number)
    return Book(book.rules, book.last, book.readings[:number] + book.readings[number + 1:], book.wrong)


def moves_by(book, value):
    """Whether any value is a MOTION by the book's RULES and LAST."""
    return is_path(book.rules, value) and len(value) == book.last + 1


def are_sources(book, value):
    """Whether any value is an ascending tuple of unlike NAMES of sources of the book."""
    return isinstance(value, tuple) and list(value) == [name for name in book.sources if name in value]


def fits_all_but(book, motion, wrong):
    """Whether a MOTION fulfils all READINGS of all sources but the wrong ones."""
    right = [reading for reading in book.readings if reading[0] not in wrong]
    return all([first_held(reading, motion) is not None for reading in right])


def is_motion(book, value):
    """Whether any value is a MOTION by the book's RULES and LAST."""
    need_book(book)
    return moves_by(book, value)


def is_world(book, value):
    """Whether any value is a WORLD by all that the book tells."""
    need_book(book)
    if not isinstance(value, tuple) or len(value) != 2:
        return False
    motion, wrong = value
    if not moves_by(book, motion) or not are_sources(book, wrong) or len(wrong) > book.wrong:
        return False
    return fits_all_but(book, motion, wrong)
