"""ROWS, what a MOTION keeps on one axis, each a sum that is at most a number; and sums of them."""

from allcoursesfit.books import need_book
from allcoursesfit.errors import BadSum
from allcoursesfit.limits import need_axis, need_state, need_tick
from allcoursesfit.ratios import is_fraction, is_whole, plus, times

ONE = (1, 1)
LESS = (-1, 1)


def opposed(number):
    """The FRACTION with the other sign."""
    return (-number[0], number[1])


def both_sides(words, terms, low, high):
    """The ROWS that tell that the terms come to low at least and to high at most, FRACTIONS; None for no bound."""
    told = []
    if high is not None:
        told.append((words + ("high",), terms, high))
    if low is not None:
        turned = tuple([(tick, word, opposed(number)) for tick, word, number in terms])
        told.append((words + ("low",), turned, opposed(low)))
    return told


def as_fraction(bound):
    """The FRACTION that an integer is; None for None."""
    if bound is None:
        return None
    return (bound, 1)


def rule_rows(rule, tick):
    """The ROWS of the RULE's bounds of place and speed at a tick."""
    places = both_sides(("place", tick), ((tick, "place", ONE),), as_fraction(rule[0]), as_fraction(rule[1]))
    speeds = both_sides(("speed", tick), ((tick, "speed", ONE),), as_fraction(rule[2]), as_fraction(rule[3]))
    return places + speeds


def move_rows(rule, tick):
    """The ROWS of the push and of the step from a tick to the next one."""
    grows = ((tick, "speed", LESS), (tick + 1, "speed", ONE))
    steps = ((tick, "place", LESS), (tick, "speed", LESS), (tick + 1, "place", ONE))
    found = both_sides(("push", tick), grows, as_fraction(rule[4]), as_fraction(rule[5]))
    return found + both_sides(("step", tick), steps, (0, 1), (0, 1))


def reading_rows(number, reading, tick):
    """The ROWS of a READING, if it holds at this one of its ticks."""
    p, q, low, high = reading[4:]
    terms = []
    if p != 0:
        terms.append((tick, "place", (p, 1)))
    if q != 0:
        terms.append((tick, "speed", (q, 1)))
    return both_sides(("reading", number, tick), tuple(terms), as_fraction(low), as_fraction(high))


def state_rows(tick, point):
    """The ROWS that tell that place and speed at a tick are those of a POINT."""
    place, speed = point
    places = both_sides(("state", "place"), ((tick, "place", ONE),), place, place)
    return places + both_sides(("state", "speed"), ((tick, "speed", ONE),), speed, speed)


def rows_of(book, tick, state, axis):
    """The ascending list of all ROWS of an axis, each with its terms and its number."""
    rule = book.rules[axis]
    found = []
    for at in range(book.last + 1):
        found = found + rule_rows(rule, at)
    for at in range(book.last):
        found = found + move_rows(rule, at)
    for number, reading in enumerate(book.readings):
        if reading[1] == axis:
            for at in range(reading[2], reading[3] + 1):
                found = found + reading_rows(number, reading, at)
    if state is not None:
        found = found + state_rows(tick, state[axis])
    return sorted(found)


def is_row(value):
    """Whether any value may be looked up as a ROW; True would be found as 1 is."""
    return isinstance(value, tuple) and all([isinstance(word, str) or is_whole(word) for word in value])


def is_weight(value):
    """Whether any value is a FRACTION above 0."""
    return is_fraction(value) and value[0] > 0


def is_entry(table, value):
    """Whether any value is a pair of a ROW of the table and a weight."""
    if not isinstance(value, tuple) or len(value) != 2:
        return False
    return is_row(value[0]) and value[0] in table and is_weight(value[1])


def row_table(book, tick, state, axis):
    """All ROWS of an axis, each with its place in their sequence, its terms and its number."""
    table = {}
    for at, (row, terms, number) in enumerate(rows_of(book, tick, state, axis)):
        table[row] = (at, terms, number)
    return table


def are_entries(table, value):
    """Whether any value is a tuple of pairs of ROWS of the table, ascending, each once, and weights."""
    if not isinstance(value, tuple) or not all([is_entry(table, entry) for entry in value]):
        return False
    places = [table[row][0] for row, weight in value]
    return all([one < other for one, other in zip(places, places[1:])])


def added_up(table, value):
    """(terms, number): each ROW taken times its weight, all added up."""
    sums = {}
    total = (0, 1)
    for row, weight in value:
        at, terms, number = table[row]
        for tick, word, many in terms:
            sums[(tick, word)] = plus(sums.get((tick, word), (0, 1)), times(many, weight))
        total = plus(total, times(number, weight))
    left = [(tick, word, many) for (tick, word), many in sums.items() if many != (0, 1)]
    return (tuple(sorted(left)), total)


def need_axis_asked(book, tick, state, axis):
    """Raises NoBook, BadTick, BadState or BadAxis unless these are a BOOK, a tick, a STATE or None, and an axis."""
    need_book(book)
    need_tick(tick, book.last)
    if state is not None:
        need_state(state, len(book.rules))
    need_axis(axis, len(book.rules))


def rows(book, tick, state, axis):
    """The ascending tuple of (ROW, terms, number), for all ROWS of an axis."""
    need_axis_asked(book, tick, state, axis)
    return tuple(rows_of(book, tick, state, axis))


def summed(book, tick, state, axis, value):
    """(terms, number) of all ROWS of value, each taken times its weight, added up."""
    need_axis_asked(book, tick, state, axis)
    table = row_table(book, tick, state, axis)
    if not are_entries(table, value):
        raise BadSum(value)
    return added_up(table, value)
