"""What makes a MOTION by RULES of STATES: nothing but the values that are asked about is looked over here."""

from allcoursesfit.limits import is_state
from allcoursesfit.ratios import is_between, minus, plus


def is_within(rule, point):
    """Whether a POINT lies between the RULE's bounds of place and speed."""
    place, speed = point
    return is_between(place, rule[0], rule[1]) and is_between(speed, rule[2], rule[3])


def comes_of(rule, point, ahead_of_it):
    """Whether a MOTION by the RULE may come to a POINT, in one tick, from the one ahead of it; bounds aside."""
    place, speed = ahead_of_it
    if point[0] != plus(place, speed):
        return False
    return is_between(minus(point[1], speed), rule[4], rule[5])


def can_stand(rules, state):
    """Whether each POINT of a STATE lies between its RULE's bounds."""
    return all([is_within(rule, point) for rule, point in zip(rules, state)])


def can_follow(rules, state, ahead_of_it):
    """Whether a MOTION may come to a STATE, in one tick, from the one ahead of it; bounds aside."""
    return all([comes_of(rule, point, was) for rule, point, was in zip(rules, state, ahead_of_it)])


def is_path(rules, value):
    """Whether any value is a MOTION by these RULES, for some LAST."""
    if not isinstance(value, tuple) or len(value) < 1 or len(value) > 13:
        return False
    if not all([is_state(state, len(rules)) and can_stand(rules, state) for state in value]):
        return False
    return all([can_follow(rules, value[tick], value[tick - 1]) for tick in range(1, len(value))])
