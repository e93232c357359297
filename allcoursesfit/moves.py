"""How a SHAPE moves in one tick, on one axis, by a RULE; nothing that is handed in is looked over here."""

from allcoursesfit.planes import common, hull_of, leaned, spread


def box(rule):
    """The SHAPE of all POINTS between the RULE's bounds of place and speed."""
    return hull_of([((place, 1), (speed, 1)) for place in rule[:2] for speed in rule[2:4]])


def carried(rule, shape):
    """The SHAPE to which the step and the pushes of one tick bring a SHAPE; bounds aside."""
    return spread(leaned(shape, 1), rule[4], rule[5])


def gone_to(rule, shape):
    """The SHAPE of all POINTS to which a MOTION comes in one tick from a POINT of a SHAPE."""
    bounds = box(rule)
    return common(carried(rule, common(shape, bounds)), bounds)


def come_from(rule, shape):
    """The SHAPE of all POINTS from which a MOTION comes in one tick to a POINT of a SHAPE."""
    bounds = box(rule)
    return common(leaned(spread(common(shape, bounds), -rule[5], -rule[4]), -1), bounds)
