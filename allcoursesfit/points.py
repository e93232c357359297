"""POINTS, tuples (place, speed) of two FRACTIONS: as texts, and what forms of them come to."""

from allcoursesfit.errors import BadPoint, BadPoints, BadWeights
from allcoursesfit.ratios import fraction_text, is_below, is_fraction, is_whole, plus, read_fraction, reduced, times


def is_point(value):
    """Whether any value is a POINT."""
    return isinstance(value, tuple) and len(value) == 2 and is_fraction(value[0]) and is_fraction(value[1])


def need_point(value):
    """Raises BadPoint unless value is a POINT."""
    if not is_point(value):
        raise BadPoint(value)


def need_points(value):
    """Raises BadPoints unless value is a tuple of none to 60 POINTS."""
    if not isinstance(value, tuple) or len(value) > 60:
        raise BadPoints(value)
    if not all([is_point(point) for point in value]):
        raise BadPoints(value)


def need_weights(p, q):
    """Raises BadWeights unless both are integers, not both 0."""
    if not is_whole(p) or not is_whole(q):
        raise BadWeights((p, q))
    if p == 0 and q == 0:
        raise BadWeights((p, q))


def weighed(point, p, q):
    """The FRACTION p times the place and q times the speed, for integers p and q."""
    place, speed = point
    return reduced(p * place[0] * speed[1] + q * speed[0] * place[1], place[1] * speed[1])


def is_ahead(one, other):
    """Whether the POINT one is less than other: by place, then by speed."""
    if one[0] == other[0]:
        return is_below(one[1], other[1])
    return is_below(one[0], other[0])


def merged(one, other):
    """One ascending list of POINTS, each once, of two such lists."""
    row = []
    here = 0
    there = 0
    while here < len(one) and there < len(other):
        if one[here] == other[there]:
            here += 1
        elif is_ahead(one[here], other[there]):
            row.append(one[here])
            here += 1
        else:
            row.append(other[there])
            there += 1
    return row + one[here:] + other[there:]


def in_sequence(points):
    """The ascending list of these POINTS, each once.

    Python's own sorting would compare tuples, not numbers, so this one merges.
    """
    if len(points) < 2:
        return list(points)
    half = len(points) // 2
    return merged(in_sequence(points[:half]), in_sequence(points[half:]))


def read_words(text):
    """The POINT that is written just so in a string, None if none is."""
    words = text.split(" ")
    if len(words) != 2:
        return None
    place = read_fraction(words[0])
    speed = read_fraction(words[1])
    if place is None or speed is None:
        return None
    return (place, speed)


def words_of(point):
    """The texts of place and speed, parted by one blank."""
    return fraction_text(point[0]) + " " + fraction_text(point[1])


def point_text(point):
    """The text of a POINT."""
    need_point(point)
    return words_of(point)


def read_point(text):
    """The POINT that has this text."""
    if not isinstance(text, str):
        raise BadPoint(text)
    point = read_words(text)
    if point is None:
        raise BadPoint(text)
    return point


def form(point, p, q):
    """The FRACTION p times the place and q times the speed, added up."""
    need_point(point)
    need_weights(p, q)
    return weighed(point, p, q)


def ascending(points):
    """The tuple of these POINTS, ascending as numbers, each once."""
    need_points(points)
    return tuple(in_sequence(points))


def halfway(one, other):
    """The POINT half way between two POINTS."""
    need_point(one)
    need_point(other)
    place = times(plus(one[0], other[0]), (1, 2))
    speed = times(plus(one[1], other[1]), (1, 2))
    return (place, speed)
