"""A Tracker: a BOOK that READINGS come to and go from, and what was reckoned for it, kept."""

from allcoursesfit.books import Book, more, without
from allcoursesfit.errors import Full, NoReading
from allcoursesfit.limits import need_state, need_tick
from allcoursesfit.lots import fits_of, lies_in
from allcoursesfit.ratios import is_whole
from allcoursesfit.steps import Steps


class Tracker:
    """A BOOK that is kept up, the numbers of its READINGS, and how many steps have been used."""

    def __init__(self, rules, last, wrong):
        self.book = Book(rules, last, (), wrong)
        self.numbers = ()
        self.work = 0
        self.coming = 0
        self.steps = Steps(rules)

    def __eq__(self, other):
        if not isinstance(other, Tracker):
            return False
        return self.book == other.book and self.numbers == other.numbers and self.coming == other.coming

    def put(self, reading):
        """Lets a READING stand behind the others; returns its number."""
        self.book = more(self.book, reading)
        number = self.coming
        self.numbers = self.numbers + (number,)
        self.coming = number + 1
        return number

    def take(self, number):
        """Lets the READING with this number stand no more."""
        if not is_whole(number) or number not in self.numbers:
            raise NoReading(number)
        at = self.numbers.index(number)
        self.book = without(self.book, at)
        self.numbers = self.numbers[:at] + self.numbers[at + 1:]

    def later(self):
        """Lets LAST be one more."""
        if self.book.last == 12:
            raise Full(12)
        self.book = Book(self.book.rules, self.book.last + 1, self.book.readings, self.book.wrong)

    def fits(self, tick):
        """What fits tells of the book at this tick."""
        need_tick(tick, self.book.last)
        found = fits_of(self.steps, self.book, tick)
        self.work = len(self.steps.kept)
        return tuple(found)

    def has(self, tick, state):
        """Whether some WORLD has this STATE at this tick."""
        need_tick(tick, self.book.last)
        need_state(state, len(self.book.rules))
        return any([lies_in(shapes, state) for wrong, ticks, shapes in self.fits(tick)])

    def copy(self):
        """An independent Tracker, alike in all things, also in what it has kept."""
        book = self.book
        other = Tracker(book.rules, book.last, book.wrong)
        other.book = book
        other.numbers = self.numbers
        other.work = self.work
        other.coming = self.coming
        other.steps = self.steps.twin()
        return other
