"""Lots in other words: all MOTIONS of one axis as rows of numbers, of which one after the other is put out of sight.

An axis is told by the place and the speed at some tick, and all pushes. A row (numbers, bound) tells that the
numbers times these come to the bound at most.
"""

import itertools
from fractions import Fraction

from tests.model import pair, turn


def speed_at(tick, other, last):
    """How the speed at other comes of what is told at tick."""
    row = [Fraction(0), Fraction(1)] + [Fraction(0)] * last
    for at in range(last):
        if tick <= at < other:
            row[2 + at] += 1
        if other <= at < tick:
            row[2 + at] -= 1
    return row


def place_at(tick, other, last):
    """How the place at other comes of what is told at tick."""
    row = [Fraction(1), Fraction(0)] + [Fraction(0)] * last
    for at in range(last):
        speed = speed_at(tick, at, last)
        if tick <= at < other:
            row = [one + two for one, two in zip(row, speed)]
        if other <= at < tick:
            row = [one - two for one, two in zip(row, speed)]
    return row


def bounded(row, low, high):
    rows = []
    if low is not None:
        rows.append(([-one for one in row], Fraction(-low)))
    if high is not None:
        rows.append((row, Fraction(high)))
    return rows


def axis_rows(rule, last, tick, cuts):
    """All rows of one axis; cuts are (tick, p, q, low, high)."""
    rows = []
    for at in range(last + 1):
        rows += bounded(place_at(tick, at, last), rule[0], rule[1])
        rows += bounded(speed_at(tick, at, last), rule[2], rule[3])
    for at in range(last):
        rows += bounded([Fraction(int(other == 2 + at)) for other in range(2 + last)], rule[4], rule[5])
    for at, p, q, low, high in cuts:
        both = zip(place_at(tick, at, last), speed_at(tick, at, last))
        rows += bounded([p * place + q * speed for place, speed in both], low, high)
    return rows


def tidied(rows):
    """Unlike rows alone, the tightest of each direction."""
    best = {}
    for row, bound in rows:
        lead = next((abs(one) for one in row if one != 0), None)
        key = tuple(row) if lead is None else tuple([one / lead for one in row])
        bound = bound if lead is None else bound / lead
        best[key] = min(best.get(key, bound), bound)
    return list(best.items())


def without_one(rows, at):
    """Rows of all but one of the numbers that can be just where the rows can."""
    plain = [row for row in rows if row[0][at] == 0]
    above = [row for row in rows if row[0][at] > 0]
    below = [row for row in rows if row[0][at] < 0]
    for (one, bound), (other, other_bound) in itertools.product(above, below):
        up, down = -other[at], one[at]
        plain.append(([up * here + down * there for here, there in zip(one, other)],
                      up * bound + down * other_bound))
    return tidied(plain)


def region(rule, last, tick, cuts):
    """Rows (p, q, bound) that bound just the lot at this tick; None if there is none."""
    rows = tidied(axis_rows(rule, last, tick, cuts))
    left = set(range(2, 2 + last))
    while left:
        def cost(at):
            return sum(row[at] > 0 for row, _ in rows) * sum(row[at] < 0 for row, _ in rows)
        at = min(left, key=cost)
        left.remove(at)
        rows = without_one(rows, at)
    return [(row[0], row[1], bound) for row, bound in rows]


def lies(rows, spot):
    """Whether a pair lies in a region."""
    return all(p * spot[0] + q * spot[1] <= bound for p, q, bound in rows)


def corners(rows):
    """The corners of a region, as a set of pairs."""
    found = set()
    for (p, q, bound), (other_p, other_q, other_bound) in itertools.combinations(rows, 2):
        across = p * other_q - q * other_p
        if across != 0:
            spot = ((bound * other_q - q * other_bound) / across, (p * other_bound - bound * other_p) / across)
            if lies(rows, spot):
                found.add(spot)
    return {spot for spot in found if not any(
        turn(one, other, spot) == 0 and min(one, other) < spot < max(one, other)
        for one, other in itertools.combinations(found, 2))}


def all_choices(book):
    """All CHOICES, by plain going through, as (wrong, ticks)."""
    names = sorted({reading[0] for reading in book.readings})
    found = []
    for wrong in itertools.combinations(names, min(book.wrong, len(names))):
        rows = [[None] if reading[0] in wrong else range(reading[2], reading[3] + 1) for reading in book.readings]
        found += [(wrong, ticks) for ticks in itertools.product(*rows)]
    return found


def chosen_cuts(book, choice, axis):
    """The cuts that a CHOICE tells for an axis."""
    return [(tick,) + reading[4:] for tick, reading in zip(choice[1], book.readings)
            if tick is not None and reading[1] == axis]


def regions(book, tick):
    """For each CHOICE the regions of all axes at this tick, and their corners."""
    known = {}
    told = []
    for choice in all_choices(book):
        row = []
        for axis, rule in enumerate(book.rules):
            key = (axis, tuple(chosen_cuts(book, choice, axis)))
            if key not in known:
                rows = region(rule, book.last, tick, key[1])
                known[key] = (rows, corners(rows))
            row.append(known[key])
        told.append((choice, row))
    return told


def can_have(told, state):
    """Whether by what regions tells some WORLD has this STATE."""
    spots = [pair(point) for point in state]
    return any(all(lies(rows, spot) for (rows, _), spot in zip(row, spots)) for choice, row in told)
