"""Journals: what was done at a Bench, as a text, and read back."""

from allcoursesfit.benches import Bench
from allcoursesfit.errors import BadJournal, FitError
from allcoursesfit.headings import read_heading


def journal(bench):
    """The text of all that was done at a Bench and stands."""
    return "\n".join(bench.lines())


def read_journal(text):
    """The Bench on which this was done."""
    if not isinstance(text, str):
        raise BadJournal(0)
    lines = text.split("\n")
    rules, last, wrong, fault = read_heading(lines)
    if fault != 0:
        raise BadJournal(fault)
    heading = len(rules) + 2
    if lines[heading:heading + 1] != ["deeds"]:
        raise BadJournal(heading + 1)
    bench = Bench(rules, last, wrong)
    for number, line in enumerate(lines[heading + 1:], start=heading + 2):
        try:
            bench.do(line)
        except FitError:
            raise BadJournal(number) from None
    return bench
