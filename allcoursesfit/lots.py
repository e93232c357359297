"""Lots: all STATES that a body can have had at a tick, by all that was read, as a union of products of SHAPES."""

from allcoursesfit.books import are_sources, need_book
from allcoursesfit.errors import BadChoice
from allcoursesfit.limits import is_from_to, need_axis, need_state, need_tick
from allcoursesfit.planes import place_in
from allcoursesfit.steps import Steps, as_cuts


def suspects(names, many):
    """The ascending list of all ascending tuples of so many of the names, which are ascending."""
    if many == 0:
        return [()]
    found = []
    for at, name in enumerate(names):
        found = found + [(name,) + others for others in suspects(names[at + 1:], many - 1)]
    return found


def ticks_of(reading, wrong):
    """The list of what may be chosen for a READING: its ticks, or None alone for one of a wrong source."""
    if reading[0] in wrong:
        return [None]
    return list(range(reading[2], reading[3] + 1))


def chosen_ticks(readings, wrong):
    """The ascending list of all tuples of chosen ticks, None for the READINGS of wrong sources."""
    rows = [()]
    for reading in readings:
        rows = [row + (tick,) for row in rows for tick in ticks_of(reading, wrong)]
    return rows


def choices_but(book, right):
    """The ascending list of all CHOICES, but none of right may be wrong, and as many as can be of the others are."""
    names = [name for name in book.sources if name not in right]
    found = []
    for wrong in suspects(names, min(book.wrong, len(names))):
        for ticks in chosen_ticks(book.readings, wrong):
            found.append((wrong, ticks))
    return found


def choices_of(book):
    """The ascending list of all CHOICES."""
    return choices_but(book, ())


def is_chosen(tick, reading, wrong):
    """Whether any value is what may be chosen for a READING."""
    if reading[0] in wrong:
        return tick is None
    return is_from_to(tick, reading[2], reading[3])


def is_choice(book, value):
    """Whether any value is a CHOICE of the book."""
    if not isinstance(value, tuple) or len(value) != 2:
        return False
    wrong, ticks = value
    if not are_sources(book, wrong) or len(wrong) != min(book.wrong, len(book.sources)):
        return False
    if not isinstance(ticks, tuple) or len(ticks) != len(book.readings):
        return False
    return all([is_chosen(tick, reading, wrong) for tick, reading in zip(ticks, book.readings)])


def need_choice(book, choice, axis, tick):
    """Raises NoBook, BadChoice, BadAxis or BadTick unless these are a BOOK, and a CHOICE, an axis and a tick of it."""
    need_book(book)
    if not is_choice(book, choice):
        raise BadChoice(choice)
    need_axis(axis, len(book.rules))
    need_tick(tick, book.last)


def cuts_of(book, choice, axis):
    """The cuts that a CHOICE tells for an axis."""
    row = []
    for tick, reading in zip(choice[1], book.readings):
        if tick is not None and reading[1] == axis:
            row.append((tick,) + reading[4:])
    return as_cuts(row)


def up_to(book, choice, axis, tick):
    """The SHAPE of all POINTS at this tick, as far as the ticks from 0 to this one alone tell."""
    need_choice(book, choice, axis, tick)
    return Steps(book.rules).forward(axis, tick, cuts_of(book, choice, axis))


def on_from(book, choice, axis, tick):
    """The SHAPE of all POINTS at this tick, as far as the ticks from this one to LAST alone tell."""
    need_choice(book, choice, axis, tick)
    return Steps(book.rules).backward(axis, tick, cuts_of(book, choice, axis), book.last)


def lot(book, choice, axis, tick):
    """The SHAPE of all POINTS at this tick, as far as this axis alone tells."""
    need_choice(book, choice, axis, tick)
    return Steps(book.rules).lot(axis, tick, cuts_of(book, choice, axis), book.last)


def choices(book):
    """The tuple of all CHOICES, ascending."""
    need_book(book)
    return tuple(choices_of(book))


def shapes_at(steps, book, choice, tick):
    """The tuple of the lots of all axes, None if one of them is ().

    The steps of all axes are used, even if the first lot is (): a Tracker tells how many it used.
    """
    shapes = []
    for axis in range(len(book.rules)):
        shapes.append(steps.lot(axis, tick, cuts_of(book, choice, axis), book.last))
    if () in shapes:
        return None
    return tuple(shapes)


def fits_of(steps, book, tick):
    """The list of (wrong, ticks, shapes), for each CHOICE that some MOTION fits, ascending."""
    found = []
    for choice in choices_of(book):
        shapes = shapes_at(steps, book, choice, tick)
        if shapes is not None:
            found.append(choice + (shapes,))
    return found


def fits(book, tick):
    """The tuple of (wrong, ticks, shapes), for each CHOICE that some MOTION fits, ascending."""
    need_book(book)
    need_tick(tick, book.last)
    return tuple(fits_of(Steps(book.rules), book, tick))


def lies_in(shapes, state):
    """Whether each axis of a STATE lies in its SHAPE."""
    return all([place_in(shape, point) >= 0 for shape, point in zip(shapes, state)])


def has(book, tick, state):
    """Whether some WORLD has this STATE at this tick."""
    need_book(book)
    need_tick(tick, book.last)
    need_state(state, len(book.rules))
    steps = Steps(book.rules)
    for choice in choices_of(book):
        shapes = shapes_at(steps, book, choice, tick)
        if shapes is not None and lies_in(shapes, state):
            return True
    return False


def is_empty(book):
    """Whether there is no WORLD."""
    need_book(book)
    steps = Steps(book.rules)
    for choice in choices_of(book):
        if shapes_at(steps, book, choice, 0) is not None:
            return False
    return True
