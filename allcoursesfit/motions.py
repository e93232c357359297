"""MOTIONS: how a body moves from tick to tick; on one axis also all POINTS at once."""

from allcoursesfit.errors import Apart, BadLast, BadLine, BadMotion, BadPart
from allcoursesfit.limits import need_rule, need_rules
from allcoursesfit.moves import box, come_from, gone_to
from allcoursesfit.paths import can_follow, can_stand, is_path
from allcoursesfit.points import read_words, words_of
from allcoursesfit.ratios import is_between, is_fraction, minus, plus, times
from allcoursesfit.shapes import need_shape


def need_motion(rules, value):
    """Raises BadMotion unless value is a MOTION by these RULES, for some LAST."""
    if not is_path(rules, value):
        raise BadMotion(value)


def start(rule):
    """The SHAPE of all POINTS between the RULE's bounds of place and speed."""
    need_rule(rule)
    return box(rule)


def ahead(rule, shape):
    """The SHAPE of all POINTS to which a MOTION comes in one tick from a POINT of shape."""
    need_rule(rule)
    need_shape(shape)
    return gone_to(rule, shape)


def behind(rule, shape):
    """The SHAPE of all POINTS from which a MOTION comes in one tick to a POINT of shape."""
    need_rule(rule)
    need_shape(shape)
    return come_from(rule, shape)


def pushes(rules, motion):
    """For each axis the FRACTIONS by which the speed grows, tick by tick."""
    need_rules(rules)
    need_motion(rules, motion)
    told = []
    for axis in range(len(rules)):
        speeds = [state[axis][1] for state in motion]
        told.append(tuple([minus(speed, was) for was, speed in zip(speeds, speeds[1:])]))
    return tuple(told)


def joined(rules, one, other):
    """The MOTION through both, where one ends in the STATE in which other begins."""
    need_rules(rules)
    need_motion(rules, one)
    need_motion(rules, other)
    if one[-1] != other[0]:
        raise Apart(None)
    last = len(one) + len(other) - 2
    if last > 12:
        raise BadLast(last)
    return one + other[1:]


def number_between(one, other, part):
    """The FRACTION one and part times what other is more than it."""
    return plus(one, times(part, minus(other, one)))


def point_between(one, other, part):
    """The POINT part of the way from one to other."""
    return (number_between(one[0], other[0], part), number_between(one[1], other[1], part))


def motion_between(one, other, part):
    """The STATES part of the way from those of one MOTION to those of another one, both of the same LAST."""
    states = []
    for here, there in zip(one, other):
        states.append(tuple([point_between(point, far, part) for point, far in zip(here, there)]))
    return tuple(states)


def between(rules, one, other, part):
    """The MOTION part of the way from one to other, number by number."""
    need_rules(rules)
    need_motion(rules, one)
    need_motion(rules, other)
    if len(one) != len(other):
        raise Apart(None)
    if not is_fraction(part) or not is_between(part, 0, 1):
        raise BadPart(part)
    return motion_between(one, other, part)


def motion_text(rules, motion):
    """The text of a MOTION: a line for each tick."""
    need_rules(rules)
    need_motion(rules, motion)
    return "\n".join([" ; ".join([words_of(point) for point in state]) for state in motion])


def read_state(many, line):
    """The STATE of so many axes that a line tells, None if it tells none."""
    points = [read_words(words) for words in line.split(" ; ")]
    if len(points) != many or not all([point is not None for point in points]):
        return None
    return tuple(points)


def read_motion(rules, text):
    """The MOTION that has this text."""
    need_rules(rules)
    if not isinstance(text, str):
        raise BadLine(0)
    motion = ()
    for number, line in enumerate(text.split("\n"), start=1):
        state = read_state(len(rules), line)
        if number > 13 or state is None or not can_stand(rules, state):
            raise BadLine(number)
        if number > 1 and not can_follow(rules, state, motion[-1]):
            raise BadLine(number)
        motion = motion + (state,)
    return motion
