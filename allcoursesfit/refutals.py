"""SUMS, found: what shows that no MOTION of one axis keeps certain ROWS.

Where the POINTS that can be come to run out, the first ROW that leaves none is beyond the farthest of them in its
direction. That none is farther follows from the ROWS that bound them there, and from how far, one tick before, the
POINTS went in the direction that is left then; and so on, back to tick 0. A direction is a pair of FRACTIONS.
"""

from allcoursesfit.moves import box, carried
from allcoursesfit.planes import cut
from allcoursesfit.ratios import is_below, minus, plus, quotient, times
from allcoursesfit.steps import as_cuts, mark_cuts
from allcoursesfit.sums import ONE, opposed, reading_rows, rule_rows, state_rows

NOTHING = (0, 1)


def direction_of(row):
    """What a ROW of one tick takes the place and the speed times."""
    told = {word: many for tick, word, many in row[1]}
    return (told.get("place", NOTHING), told.get("speed", NOTHING))


def far(direction, point):
    """How far a POINT is in a direction."""
    return plus(times(direction[0], point[0]), times(direction[1], point[1]))


def farthest(corners, direction):
    """The first corner that is farthest in a direction."""
    best = corners[0]
    for corner in corners:
        if is_below(far(direction, best), far(direction, corner)):
            best = corner
    return best


def side_of(row):
    """The side, in integers, in which what keeps a ROW of one tick lies."""
    number = row[2]
    p, q = direction_of(row)
    return (-p[0] * number[1], -q[0] * number[1], number[0])


def bearing(rows, point):
    """The list of those ROWS of one tick that a POINT keeps just so."""
    return [row for row in rows if far(direction_of(row), point) == row[2]]


def less(direction, other, weight):
    """A direction without weight times the other one."""
    return (minus(direction[0], times(weight, other[0])), minus(direction[1], times(weight, other[1])))


def is_farthest(corners, point, direction):
    """Whether none of the corners is farther in a direction than a POINT."""
    return not is_below(far(direction, point), far(direction, farthest(corners, direction)))


def least_weight(corners, point, direction, other):
    """The least weight such that no corner is farther than point in the direction less so much of the other one.

    None if there is none. Each corner bounds the weight on one side, or tells that it doesn't matter.
    """
    low, high = NOTHING, None
    for corner in corners:
        gain = minus(far(direction, corner), far(direction, point))
        loss = minus(far(other, corner), far(other, point))
        if loss == NOTHING:
            if gain[0] > 0:
                return None
        elif loss[0] > 0:
            if is_below(low, quotient(gain, loss)):
                low = quotient(gain, loss)
        elif high is None or is_below(quotient(gain, loss), high):
            high = quotient(gain, loss)
    if high is not None and is_below(high, low):
        return None
    return low


def across(one, other):
    """0 just if two directions are on one line: the FRACTION by which they are turned from one another."""
    return minus(times(one[0], other[1]), times(one[1], other[0]))


def pair_weights(direction, one, other):
    """The weights, from 0 on, with which two directions come to a third together, None if there are none."""
    turned = across(one, other)
    if turned == NOTHING:
        return None
    weights = (quotient(across(direction, other), turned), quotient(across(one, direction), turned))
    if weights[0][0] < 0 or weights[1][0] < 0:
        return None
    return weights


def by_one(corners, point, direction, rows):
    """(entries, rest): one ROW and its weight, such that point is farthest in the direction that is left, or None."""
    for row in rows:
        weight = least_weight(corners, point, direction, direction_of(row))
        if weight is not None:
            return ([(row[0], weight)], less(direction, direction_of(row), weight))
    return None


def by_two(direction, rows):
    """(entries, rest): two ROWS and their weights, such that no direction is left."""
    for one in rows:
        for other in rows:
            weights = pair_weights(direction, direction_of(one), direction_of(other))
            if weights is not None:
                return ([(one[0], weights[0]), (other[0], weights[1])], (NOTHING, NOTHING))
    return None


def shared_out(corners, point, direction, rows):
    """(entries, rest): ROWS with weights, such that, without them, point is farthest of the corners in the rest.

    corners is None at tick 0, where nothing but the ROWS bounds the POINTS. A POINT that is farthest of all that keep
    the ROWS is so by two at most of them and of the directions in which it is farthest of the corners.
    """
    if corners is None:
        return by_two(direction, bearing(rows, point))
    if is_farthest(corners, point, direction):
        return ([], direction)
    found = by_one(corners, point, direction, bearing(rows, point))
    if found is None:
        found = by_two(direction, bearing(rows, point))
    return found


def move_entries(tick, direction):
    """The ROWS, with weights, that bound a direction at the tick behind this one by what is so at this one."""
    entries = []
    for word, many in (("step", direction[0]), ("push", direction[1])):
        if many[0] > 0:
            entries.append(((word, tick, "high"), many))
        if many[0] < 0:
            entries.append(((word, tick, "low"), opposed(many)))
    return entries


class Trial:
    """ROWS of one axis, those of each tick alone in a list, and the cuts of Steps that tell the same."""

    def __init__(self, steps, axis, rows, cuts):
        self.steps = steps
        self.axis = axis
        self.rows = rows
        self.cuts = cuts

    def lot(self, tick):
        """The SHAPE of the POINTS at this tick, as far as the ROWS up to it tell."""
        return self.steps.forward(self.axis, tick, self.cuts)

    def brought(self, tick):
        """The SHAPE to which the tick before brings, ROWS of this one aside; None at tick 0."""
        if tick == 0:
            return None
        return carried(self.steps.rules[self.axis], self.lot(tick - 1))

    def empty_tick(self):
        """The first tick at which there is no POINT, None if there is none."""
        for tick in range(len(self.rows)):
            if self.lot(tick) == ():
                return tick
        return None


def broken(trial, tick):
    """(corners, kept, row): the first ROW of a tick that leaves nothing, and the SHAPE that those ahead of it leave."""
    corners = trial.brought(tick)
    if corners is None:
        corners = box(trial.steps.rules[trial.axis])
    kept = []
    for row in trial.rows[tick]:
        left = cut(corners, side_of(row))
        if left == ():
            return (corners, kept, row)
        corners = left
        kept.append(row)
    return None


def sum_against(trial):
    """A SUM of the ROWS of a trial, None if some MOTION keeps them."""
    tick = trial.empty_tick()
    if tick is None:
        return None
    corners, kept, row = broken(trial, tick)
    p, q = direction_of(row)
    direction = (opposed(p), opposed(q))
    point = farthest(corners, direction)
    entries, direction = shared_out(trial.brought(tick), point, direction, kept)
    entries = entries + [(row[0], ONE)]
    while direction != (NOTHING, NOTHING):
        tick = tick - 1
        entries = entries + move_entries(tick, direction)
        direction = (direction[0], plus(direction[0], direction[1]))
        point = farthest(trial.lot(tick), direction)
        shares, direction = shared_out(trial.brought(tick), point, direction, trial.rows[tick])
        entries = entries + shares
    return tuple(sorted([entry for entry in entries if entry[1] != NOTHING]))


def trial_of(steps, book, tick, state, axis, held):
    """The trial whether some MOTION has a STATE, or None, at a tick, held telling of which READINGS, at which tick."""
    rows = []
    for at in range(book.last + 1):
        row = rule_rows(book.rules[axis], at)
        if state is not None and at == tick:
            row = row + state_rows(tick, state[axis])
        for number, when in held:
            if when == at:
                row = row + reading_rows(number, book.readings[number], at)
        rows.append(row)
    cuts = [(at,) + book.readings[number][4:] for number, at in held]
    if state is not None:
        cuts = cuts + mark_cuts(tick, state[axis])
    return Trial(steps, axis, rows, as_cuts(cuts))
