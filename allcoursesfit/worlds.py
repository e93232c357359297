"""WORLDS: a MOTION, and those few sources that are let be wrong, for whatever fits."""

from allcoursesfit.books import is_world, moves_by, need_book
from allcoursesfit.errors import BadMarks, BadMotion
from allcoursesfit.limits import is_from_to, is_state, need_state, need_tick
from allcoursesfit.lots import choices_of, cuts_of
from allcoursesfit.moves import gone_to
from allcoursesfit.planes import common
from allcoursesfit.readings import first_held, names_of
from allcoursesfit.steps import Steps, as_cuts, mark_cuts


def is_mark(book, value):
    """Whether any value is a pair of a tick and a STATE of the book."""
    if not isinstance(value, tuple) or len(value) != 2:
        return False
    return is_from_to(value[0], 0, book.last) and is_state(value[1], len(book.rules))


def need_marks(book, value):
    """Raises BadMarks unless value is a tuple of marks, their ticks ascending, each once."""
    if not isinstance(value, tuple) or not all([is_mark(book, mark) for mark in value]):
        raise BadMarks(value)
    if not all([mark[0] < other[0] for mark, other in zip(value, value[1:])]):
        raise BadMarks(value)


def point_cuts(axis, tick, point):
    """The list of pairs (axis, cut) that leave one POINT alone on an axis at a tick."""
    return [(axis, told) for told in mark_cuts(tick, point)]


def cuts_with(book, choice, axis, extra):
    """The cuts for an axis of a CHOICE and of a list of pairs (axis, cut)."""
    row = list(cuts_of(book, choice, axis))
    return as_cuts(row + [told for other, told in extra if other == axis])


def axis_points(steps, axis, cuts, last):
    """The list of the POINTS, tick by tick, of some MOTION on one axis that fulfils the cuts; [] if there is none."""
    lots = [steps.backward(axis, tick, cuts, last) for tick in range(last + 1)]
    if lots[0] == ():
        return []
    points = [lots[0][0]]
    for shape in lots[1:]:
        points.append(common(gone_to(steps.rules[axis], (points[-1],)), shape)[0])
    return points


def motion_with(steps, book, choice, extra):
    """Some MOTION that fits a CHOICE and the cuts in a list of pairs (axis, cut), None if there is none."""
    rows = []
    for axis in range(len(book.rules)):
        row = axis_points(steps, axis, cuts_with(book, choice, axis, extra), book.last)
        if row == []:
            return None
        rows.append(row)
    return tuple([tuple([row[tick] for row in rows]) for tick in range(book.last + 1)])


def barred_by(book, motion):
    """The ascending tuple of the sources of which a MOTION does not fulfil some READING."""
    return tuple(names_of([reading for reading in book.readings if first_held(reading, motion) is None]))


def world_of(book, motion):
    """The WORLD of a MOTION, in which just those sources are wrong that it bars; None for None."""
    if motion is None:
        return None
    return (motion, barred_by(book, motion))


def some_world(book, marks):
    """Some WORLD that has each mark's STATE at its tick, None if there is none."""
    steps = Steps(book.rules)
    extra = []
    for tick, state in marks:
        for axis, point in enumerate(state):
            extra = extra + point_cuts(axis, tick, point)
    for choice in choices_of(book):
        motion = motion_with(steps, book, choice, extra)
        if motion is not None:
            return world_of(book, motion)
    return None


def shows_some_world(book, marks, value):
    """Whether value is a WORLD with these marks, or None and there is none."""
    if value is None:
        return some_world(book, marks) is None
    return is_world(book, value) and all([value[0][tick] == state for tick, state in marks])


def need_asked(book, tick, state):
    """Raises NoBook, BadTick or BadState unless these are a BOOK, and a tick and a STATE of it."""
    need_book(book)
    need_tick(tick, book.last)
    need_state(state, len(book.rules))


def any_world(book):
    """Any WORLD; None if there is none."""
    need_book(book)
    return some_world(book, ())


def world_with(book, tick, state):
    """Any WORLD whose MOTION has this STATE at this tick; None if there is none."""
    need_asked(book, tick, state)
    return some_world(book, ((tick, state),))


def world_through(book, marks):
    """Any WORLD whose MOTION has each of these STATES at its tick; None if there is none."""
    need_book(book)
    need_marks(book, marks)
    return some_world(book, marks)


def need_motion_of(book, motion):
    """Raises NoBook or BadMotion unless these are a BOOK and a MOTION by its RULES and LAST."""
    need_book(book)
    if not moves_by(book, motion):
        raise BadMotion(motion)


def barred(book, motion):
    """The ascending tuple of the sources of which the MOTION does not fulfil some READING."""
    need_motion_of(book, motion)
    return barred_by(book, motion)


def told_by(book, motion):
    """For each READING whether the MOTION fulfils it, and the first tick at which what it tells is so."""
    need_motion_of(book, motion)
    held = [first_held(reading, motion) for reading in book.readings]
    return tuple([(tick is not None, tick) for tick in held])


def shows_any_world(book, value):
    """Whether any_world may tell value."""
    need_book(book)
    return shows_some_world(book, (), value)


def shows_world_with(book, tick, state, value):
    """Whether world_with may tell value."""
    need_asked(book, tick, state)
    return shows_some_world(book, ((tick, state),), value)


def shows_world_through(book, marks, value):
    """Whether world_through may tell value."""
    need_book(book)
    need_marks(book, marks)
    return shows_some_world(book, marks, value)
