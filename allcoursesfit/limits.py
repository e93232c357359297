"""RULES, LAST, ticks and STATES: what they are."""

from allcoursesfit.errors import BadAxis, BadLast, BadRule, BadRules, BadState, BadTick, BadWrong
from allcoursesfit.points import is_point
from allcoursesfit.ratios import is_whole


def is_from_to(value, low, high):
    """Whether any value is an integer from low to high."""
    return is_whole(value) and low <= value <= high


def is_rule(value):
    """Whether any value is a RULE."""
    if not isinstance(value, tuple) or len(value) != 6:
        return False
    if not all([is_from_to(number, -1000, 1000) for number in value]):
        return False
    return value[0] <= value[1] and value[2] <= value[3] and value[4] <= value[5]


def need_rule(value):
    """Raises BadRule unless value is a RULE."""
    if not is_rule(value):
        raise BadRule(value)


def need_rules(value):
    """Raises BadRules unless value is RULES."""
    if not isinstance(value, tuple) or len(value) < 1 or len(value) > 3:
        raise BadRules(value)
    if not all([is_rule(rule) for rule in value]):
        raise BadRules(value)


def need_last(value):
    """Raises BadLast unless value is LAST, the number of a last tick."""
    if not is_from_to(value, 0, 12):
        raise BadLast(value)


def need_wrong(value):
    """Raises BadWrong unless value is WRONG, a number of sources that may be wrong."""
    if not is_from_to(value, 0, 3):
        raise BadWrong(value)


def need_tick(value, last):
    """Raises BadTick unless value is a tick up to last."""
    if not is_from_to(value, 0, last):
        raise BadTick(value)


def need_axis(value, many):
    """Raises BadAxis unless value is the number of one of so many axes."""
    if not is_from_to(value, 0, many - 1):
        raise BadAxis(value)


def is_state(value, many):
    """Whether any value is a STATE of so many axes."""
    return isinstance(value, tuple) and len(value) == many and all([is_point(point) for point in value])


def need_state(value, many):
    """Raises BadState unless value is a STATE of so many axes."""
    if not is_state(value, many):
        raise BadState(value)
