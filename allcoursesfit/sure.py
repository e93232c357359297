"""What is sure of sources and of READINGS: right or wrong, kept or barred, or open; with WORLDS for it."""

from allcoursesfit.books import is_world, need_book
from allcoursesfit.errors import BadNumber, NoSource
from allcoursesfit.limits import is_from_to
from allcoursesfit.lots import choices_but, choices_of, cuts_of
from allcoursesfit.motions import motion_between
from allcoursesfit.planes import at_side
from allcoursesfit.readings import first_held
from allcoursesfit.steps import Steps, cut_sides
from allcoursesfit.worlds import barred_by, cuts_with, motion_with, point_cuts, world_of


def need_source(book, source):
    """Raises NoBook or NoSource unless these are a BOOK and the NAME of one of its sources."""
    need_book(book)
    if source not in book.sources:
        raise NoSource(source)


def need_number(book, number):
    """Raises NoBook or BadNumber unless these are a BOOK and the number of one of its READINGS."""
    need_book(book)
    if not is_from_to(number, 0, len(book.readings) - 1):
        raise BadNumber(number)


def first_motion(steps, book, choices):
    """Some MOTION that fits one of the choices, None if there is none."""
    for choice in choices:
        motion = motion_with(steps, book, choice, [])
        if motion is not None:
            return motion
    return None


def right_motion(steps, book, source):
    """Some WORLD's MOTION that fulfils all READINGS of a source, None if there is none."""
    return first_motion(steps, book, choices_but(book, (source,)))


def kept_choices(book, number):
    """The list of all CHOICES, with a tick chosen for one READING, even if its source is wrong."""
    source, axis, first, last = book.readings[number][:4]
    found = []
    for wrong, ticks in choices_of(book):
        chosen = [ticks[number]]
        if source in wrong:
            chosen = list(range(first, last + 1))
        for tick in chosen:
            found.append((wrong, ticks[:number] + (tick,) + ticks[number + 1:]))
    return found


def kept_motion(steps, book, number):
    """Some WORLD's MOTION that fulfils a READING, None if there is none."""
    return first_motion(steps, book, kept_choices(book, number))


def sides_beyond(reading, tick):
    """The list of the cuts, one or two, of what is beyond a READING's bounds at a tick, the bounds let in."""
    p, q, low, high = reading[4:]
    sides = []
    if low is not None:
        sides.append((tick, p, q, None, low))
    if high is not None:
        sides.append((tick, p, q, high, None))
    return sides


def corner_beyond(shape, told):
    """The first corner of a SHAPE that lies on the side that a cut tells, but not on its line; None if none does."""
    side = cut_sides(told)[0]
    for corner in shape:
        if at_side(side, corner) > 0:
            return corner
    return None


def all_sides(steps, book, choice, number):
    """The list of all ways to take a cut of sides_beyond for each tick of a READING, beyond which something fits."""
    reading = book.readings[number]
    cuts = cuts_of(book, choice, reading[1])
    rows = [[]]
    for tick in range(reading[2], reading[3] + 1):
        shape = steps.lot(reading[1], tick, cuts, book.last)
        sides = [told for told in sides_beyond(reading, tick) if corner_beyond(shape, told) is not None]
        rows = [row + [told] for row in rows for told in sides]
    return rows


def motion_beyond(steps, book, choice, axis, sides):
    """Some MOTION that fits a CHOICE and lies beyond each of these cuts of an axis, None if there is none.

    For each of the cuts it takes a MOTION that goes beyond this one, and does not leave the others; halfway between
    them all of them are gone beyond.
    """
    extra = [(axis, told) for told in sides]
    cuts = cuts_with(book, choice, axis, extra)
    corners = [corner_beyond(steps.lot(axis, told[0], cuts, book.last), told) for told in sides]
    if None in corners:
        return None
    found = None
    for told, corner in zip(sides, corners):
        motion = motion_with(steps, book, choice, extra + point_cuts(axis, told[0], corner))
        if motion is None:
            return None
        if found is not None:
            motion = motion_between(found, motion, (1, 2))
        found = motion
    return found


def barred_motion(steps, book, number):
    """Some WORLD's MOTION that bars a READING, None if there is none."""
    source, axis = book.readings[number][:2]
    for choice in choices_of(book):
        if source in choice[0]:
            for sides in all_sides(steps, book, choice, number):
                motion = motion_beyond(steps, book, choice, axis, sides)
                if motion is not None:
                    return motion
    return None


def wrong_motion(steps, book, source):
    """Some WORLD's MOTION that bars some READING of a source, None if there is none."""
    for number, reading in enumerate(book.readings):
        if reading[0] == source:
            motion = barred_motion(steps, book, number)
            if motion is not None:
                return motion
    return None


def word_by(one, other, words):
    """The first word if there is one alone, the second if there is the other alone, "open" if both, "none" if none."""
    if one is not None and other is not None:
        return "open"
    if one is not None:
        return words[0]
    if other is not None:
        return words[1]
    return "none"


def source_word(steps, book, source):
    """The word of a source."""
    return word_by(right_motion(steps, book, source), wrong_motion(steps, book, source), ("right", "wrong"))


def sources_with(book, word):
    """The ascending tuple of the sources with this word."""
    steps = Steps(book.rules)
    return tuple([source for source in book.sources if source_word(steps, book, source) == word])


def right_world(book, source):
    """Any WORLD whose MOTION fulfils all READINGS of source; None if there is none."""
    need_source(book, source)
    return world_of(book, right_motion(Steps(book.rules), book, source))


def wrong_world(book, source):
    """Any WORLD whose MOTION bars some READING of source; None if there is none."""
    need_source(book, source)
    return world_of(book, wrong_motion(Steps(book.rules), book, source))


def word_of(book, source):
    """What is sure of a source: "right", "wrong", "open", or "none" if there is no WORLD."""
    need_source(book, source)
    return source_word(Steps(book.rules), book, source)


def kept_world(book, number):
    """Any WORLD whose MOTION fulfils this READING; None if there is none."""
    need_number(book, number)
    return world_of(book, kept_motion(Steps(book.rules), book, number))


def barred_world(book, number):
    """Any WORLD whose MOTION bars this READING; None if there is none."""
    need_number(book, number)
    return world_of(book, barred_motion(Steps(book.rules), book, number))


def word_at(book, number):
    """What is sure of a READING: "kept", "barred", "open", or "none" if there is no WORLD."""
    need_number(book, number)
    steps = Steps(book.rules)
    return word_by(kept_motion(steps, book, number), barred_motion(steps, book, number), ("kept", "barred"))


def surely_wrong(book):
    """The ascending tuple of the sources that are surely wrong."""
    need_book(book)
    return sources_with(book, "wrong")


def surely_right(book):
    """The ascending tuple of the sources that are surely right."""
    need_book(book)
    return sources_with(book, "right")


def shows_right_world(book, source, value):
    """Whether right_world may tell value."""
    need_source(book, source)
    if value is None:
        return right_motion(Steps(book.rules), book, source) is None
    return is_world(book, value) and source not in barred_by(book, value[0])


def shows_wrong_world(book, source, value):
    """Whether wrong_world may tell value."""
    need_source(book, source)
    if value is None:
        return wrong_motion(Steps(book.rules), book, source) is None
    return is_world(book, value) and source in barred_by(book, value[0])


def shows_kept_world(book, number, value):
    """Whether kept_world may tell value."""
    need_number(book, number)
    if value is None:
        return kept_motion(Steps(book.rules), book, number) is None
    return is_world(book, value) and first_held(book.readings[number], value[0]) is not None


def shows_barred_world(book, number, value):
    """Whether barred_world may tell value."""
    need_number(book, number)
    if value is None:
        return barred_motion(Steps(book.rules), book, number) is None
    return is_world(book, value) and first_held(book.readings[number], value[0]) is None
