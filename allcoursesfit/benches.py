"""A Bench: a BOOK that deeds are done to, undone, tried."""

from allcoursesfit.books import Book, more, without
from allcoursesfit.errors import BadTask, NoBlock, NothingToRedo, NothingToUndo
from allcoursesfit.headings import heading_lines
from allcoursesfit.ratios import read_whole
from allcoursesfit.readings import read_reading_words


def read_deed(line):
    """(word, what) for a line that tells a deed, what a READING or an integer; None if it tells none."""
    word, blank, text = line.partition(" ")
    if word == "read":
        what = read_reading_words(text)
    elif word in ("off", "wrong"):
        what = read_whole(text)
    else:
        return None
    if what is None:
        return None
    return (word, what)


def book_behind(book, word, what):
    """The BOOK behind a deed."""
    if word == "read":
        return more(book, what)
    if word == "off":
        return without(book, what)
    return Book(book.rules, book.last, book.readings, what)


class Bench:
    """A BOOK under hands: deeds that stand in done, those that were undone in undone.

    Both hold pairs of the line and the BOOK that comes back: by undo, or by redo. staying is None outside of all
    trials; in one it tells whether keep was called in the innermost.
    """

    def __init__(self, rules, last, wrong):
        self.first = Book(rules, last, (), wrong)
        self.book = self.first
        self.rules = rules
        self.last = last
        self.deeds = 0
        self.done = ()
        self.undone = ()
        self.staying = None

    def __len__(self):
        return len(self.book.readings)

    def __eq__(self, other):
        return isinstance(other, Bench) and self.lines() == other.lines()

    def lines(self):
        """The list of the lines of the journal."""
        heading = heading_lines(self.rules, self.last, self.first.wrong)
        return heading + ["deeds"] + [line for line, book in self.done]

    def stand(self, book, done, undone):
        """Lets these be how things stand."""
        self.book = book
        self.done = done
        self.undone = undone
        self.deeds = len(done)

    def do(self, line):
        """Does what a line tells: a deed."""
        if not isinstance(line, str):
            raise BadTask(line)
        deed = read_deed(line)
        if deed is None:
            raise BadTask(line)
        word, what = deed
        book = book_behind(self.book, word, what)
        self.stand(book, self.done + ((line, self.book),), ())

    def undo(self):
        """Takes the last deed back that stands."""
        if self.done == ():
            raise NothingToUndo(None)
        line, book = self.done[-1]
        self.stand(book, self.done[:-1], self.undone + ((line, self.book),))

    def redo(self):
        """Does the deed again that was taken back last."""
        if self.undone == ():
            raise NothingToRedo(None)
        line, book = self.undone[-1]
        self.stand(book, self.done + ((line, self.book),), self.undone[:-1])

    def tried(self, look, *, keep=False):
        """Calls look with the bench and returns what it returned; how things stand stays only if this is kept."""
        book, deeds, done, undone = self.book, self.deeds, self.done, self.undone
        outer = self.staying
        kept = None
        self.staying = False
        try:
            answer = look(self)
            if keep is True or self.staying is True:
                kept = True
        finally:
            self.staying = outer
            if kept is None:
                self.book, self.deeds, self.done, self.undone = book, deeds, done, undone
        return answer

    def keep(self):
        """Lets the innermost trial be kept."""
        if self.staying is None:
            raise NoBlock(None)
        self.staying = True

    def copy(self):
        """An independent Bench, alike in all things, outside of all trials."""
        other = Bench(self.rules, self.last, self.first.wrong)
        other.stand(self.book, self.done, self.undone)
        return other
