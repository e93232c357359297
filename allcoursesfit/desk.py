"""A Desk: lines that are done at a Bench, or answered by what its BOOK tells."""

from allcoursesfit.benches import read_deed
from allcoursesfit.bounds import bounds, middle
from allcoursesfit.errors import BadTask
from allcoursesfit.journals import read_journal
from allcoursesfit.lots import is_empty
from allcoursesfit.questions import are_weights
from allcoursesfit.ratios import fraction_text, read_whole
from allcoursesfit.readings import is_name
from allcoursesfit.sure import word_at, word_of


def read_form(words):
    """The tuple of the four integers that words tell, the last two as a FORM has them; None if they tell none."""
    numbers = tuple([read_whole(word) for word in words])
    if len(numbers) != 4 or None in numbers or not are_weights(numbers[2], numbers[3]):
        return None
    return numbers


def numbers_text(told):
    """The texts of the first two FRACTIONS that are told, parted by one blank; "none" for None."""
    if told is None:
        return "none"
    return fraction_text(told[0]) + " " + fraction_text(told[1])


def form_answer(book, line):
    """The answer to a line that asks of a FORM, None if it does not."""
    words = line.split(" ")
    form = read_form(words[1:])
    if form is None:
        return None
    if words[0] == "bounds":
        return numbers_text(bounds(book, form))
    if words[0] == "middle":
        return numbers_text(middle(book, form))
    return None


def word_answer(book, line):
    """The answer to a line that asks of a source or of a READING, None if it does not."""
    word, blank, text = line.partition(" ")
    if word == "source" and is_name(text):
        return word_of(book, text)
    if word == "read" and read_whole(text) is not None:
        return word_at(book, read_whole(text))
    return None


def answer_to(book, line):
    """The answer to a line that asks, None if it does not."""
    if line == "fits":
        if is_empty(book):
            return "no"
        return "yes"
    answer = form_answer(book, line)
    if answer is None:
        answer = word_answer(book, line)
    return answer


class Desk:
    """A Bench, and lines that are said to it."""

    def __init__(self, text):
        self.bench = read_journal(text)

    def say(self, line):
        """Does what a line tells, or answers what it asks."""
        if not isinstance(line, str):
            raise BadTask(line)
        if read_deed(line) is not None:
            self.bench.do(line)
        elif line == "undo":
            self.bench.undo()
        elif line == "redo":
            self.bench.redo()
        else:
            return self.answer(line)
        return "done"

    def answer(self, line):
        """The answer to a line that asks."""
        told = answer_to(self.bench.book, line)
        if told is None:
            raise BadTask(line)
        return told
