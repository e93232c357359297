"""Steps: what MOTIONS can come to, forward and backward, on one axis, if they fulfil *cuts*.

A cut is a tuple (tick, p, q, low, high) of integers: at the tick p times the place and q times the speed are low at
least and high at most; None is no bound.
"""

from allcoursesfit.moves import box, come_from, gone_to
from allcoursesfit.planes import common, cut


def cut_rank(told):
    """What cuts are sorted by: None cannot be compared with integers."""
    tick, p, q, low, high = told
    return (tick, p, q, low is not None, low or 0, high is not None, high or 0)


def as_cuts(row):
    """The tuple of the unlike cuts in a list: ever the same one for the same cuts, in whatever sequence."""
    return tuple(sorted(list({told: True for told in row}), key=cut_rank))


def mark_cuts(tick, point):
    """The list of the cuts that leave one POINT alone at a tick."""
    place, speed = point
    return [(tick, place[1], 0, place[0], place[0]), (tick, 0, speed[1], speed[0], speed[0])]


def cut_sides(told):
    """The list of the sides, one or two, that a cut tells."""
    tick, p, q, low, high = told
    sides = []
    if low is not None:
        sides.append((p, q, -low))
    if high is not None:
        sides.append((-p, -q, high))
    return sides


def cut_at(shape, tick, cuts):
    """The SHAPE of what of a SHAPE the cuts of this tick leave."""
    left = shape
    for told in cuts:
        if told[0] == tick:
            for side in cut_sides(told):
                left = cut(left, side)
    return left


class Steps:
    """The steps that were asked for, each reckoned once and kept."""

    def __init__(self, rules):
        self.rules = rules
        self.kept = {}

    def twin(self):
        """Other Steps that have kept the same, and go on by themselves."""
        other = Steps(self.rules)
        other.kept = {key: self.kept[key] for key in self.kept}
        return other

    def forward(self, axis, tick, cuts):
        """The SHAPE of all POINTS at this tick of MOTIONS that fulfil the cuts of this tick and of those ahead."""
        rule = self.rules[axis]
        key = ("forward", axis, tick, tuple([told for told in cuts if told[0] <= tick]), None)
        if key not in self.kept:
            shape = box(rule)
            if tick > 0:
                shape = gone_to(rule, self.forward(axis, tick - 1, cuts))
            self.kept[key] = cut_at(shape, tick, cuts)
        return self.kept[key]

    def backward(self, axis, tick, cuts, last):
        """The SHAPE of all POINTS at this tick from which MOTIONS go on to last and fulfil the cuts from here on."""
        rule = self.rules[axis]
        key = ("backward", axis, tick, tuple([told for told in cuts if told[0] >= tick]), last)
        if key not in self.kept:
            shape = box(rule)
            if tick < last:
                shape = come_from(rule, self.backward(axis, tick + 1, cuts, last))
            self.kept[key] = cut_at(shape, tick, cuts)
        return self.kept[key]

    def lot(self, axis, tick, cuts, last):
        """The SHAPE of all POINTS at this tick of MOTIONS up to last that fulfil all cuts."""
        return common(self.forward(axis, tick, cuts), self.backward(axis, tick, cuts, last))
