"""READINGS: what sources tell, as texts, and what fulfils them."""

from allcoursesfit.errors import BadReading, BadReadings, BadStates
from allcoursesfit.limits import is_from_to, is_state
from allcoursesfit.points import weighed
from allcoursesfit.ratios import is_between, read_whole

LETTERS = "abcdefghijklmnopqrstuvwxyz"
SIGNS = "abcdefghijklmnopqrstuvwxyz0123456789"


def is_name(value):
    """Whether any value is a NAME."""
    if not isinstance(value, str) or len(value) < 1 or len(value) > 8:
        return False
    return value[0] in LETTERS and all([sign in SIGNS for sign in value])


def is_bound(value):
    """Whether any value is a bound of a READING: None, too."""
    return value is None or is_from_to(value, -9999, 9999)


def are_bounds(low, high):
    """Whether any two values are the bounds of a READING."""
    if not is_bound(low) or not is_bound(high):
        return False
    if low is None or high is None:
        return low is not None or high is not None
    return low <= high


def are_ticks(first, last):
    """Whether any two values are the first and the last tick of a READING."""
    return is_from_to(first, 0, 12) and is_from_to(last, first, min(12, first + 3))


def is_reading(value):
    """Whether any value is a READING."""
    if not isinstance(value, tuple) or len(value) != 8:
        return False
    source, axis, first, last, p, q, low, high = value
    if not is_name(source) or not is_from_to(axis, 0, 2) or not are_ticks(first, last):
        return False
    if not is_from_to(p, -9, 9) or not is_from_to(q, -9, 9):
        return False
    return (p != 0 or q != 0) and are_bounds(low, high)


def need_reading(value):
    """Raises BadReading unless value is a READING."""
    if not is_reading(value):
        raise BadReading(value)


def is_unsure(reading):
    """Whether a READING's tick is not surely known."""
    return reading[2] != reading[3]


def names_of(readings):
    """The ascending list of the sources of READINGS, each once."""
    return sorted(list({reading[0]: True for reading in readings}))


def are_readings(value):
    """Whether any value is READINGS."""
    if not isinstance(value, tuple) or len(value) > 24:
        return False
    if not all([is_reading(reading) for reading in value]):
        return False
    unsure = [reading for reading in value if is_unsure(reading)]
    return len(names_of(value)) <= 6 and len(unsure) <= 3


def need_readings(value):
    """Raises BadReadings unless value is READINGS."""
    if not are_readings(value):
        raise BadReadings(value)


def holds_at(reading, states, tick):
    """Whether what a READING tells is so at a tick of STATES."""
    source, axis, first, last, p, q, low, high = reading
    return is_between(weighed(states[tick][axis], p, q), low, high)


def first_held(reading, states):
    """The first of a READING's ticks at which what it tells is so, None if there is none."""
    for tick in range(reading[2], reading[3] + 1):
        if holds_at(reading, states, tick):
            return tick
    return None


def bound_text(bound):
    """The text of a bound, the empty one for None."""
    if bound is None:
        return ""
    return str(bound)


def words_of_reading(reading):
    """The text of a READING."""
    source, axis, first, last, p, q, low, high = reading
    ticks = str(first)
    if is_unsure(reading):
        ticks = ticks + ".." + str(last)
    words = [source, str(axis), ticks, str(p), str(q), bound_text(low) + ".." + bound_text(high)]
    return " ".join(words)


def reading_text(reading):
    """The text of a READING."""
    need_reading(reading)
    return words_of_reading(reading)


def read_pair(word):
    """The two integers that a word tells, joined by two dots, None for each that it doesn't tell."""
    low, dots, high = word.partition("..")
    return (read_whole(low), read_whole(high))


def read_reading_words(text):
    """The READING that has this text, None if none has.

    What stands otherwise than its text is told the same way here, so the text is made again and compared.
    """
    words = text.split(" ")
    if len(words) != 6:
        return None
    source, axis, ticks, p, q, bounds = words
    first, last = read_pair(ticks)
    if last is None:
        last = first
    low, high = read_pair(bounds)
    reading = (source, read_whole(axis), first, last, read_whole(p), read_whole(q), low, high)
    if not is_reading(reading) or words_of_reading(reading) != text:
        return None
    return reading


def read_reading(text):
    """The READING that has this text."""
    if not isinstance(text, str):
        raise BadReading(text)
    reading = read_reading_words(text)
    if reading is None:
        raise BadReading(text)
    return reading


def need_states(value, reading):
    """Raises BadStates unless value is a tuple of STATES, all of as many axes, of which the READING can tell."""
    if not isinstance(value, tuple) or len(value) > 13 or len(value) <= reading[3]:
        raise BadStates(value)
    if not isinstance(value[0], tuple) or len(value[0]) > 3 or len(value[0]) <= reading[1]:
        raise BadStates(value)
    if not all([is_state(state, len(value[0])) for state in value]):
        raise BadStates(value)


def fulfils(reading, states):
    """Whether there is a tick of the READING at which what it tells is so."""
    need_reading(reading)
    need_states(states, reading)
    return first_held(reading, states) is not None


def sources(readings):
    """The ascending tuple of the NAMES of all sources of READINGS."""
    need_readings(readings)
    return tuple(names_of(readings))
