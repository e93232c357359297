"""What fits in other words, strict rows too: one number after the other is put out of sight until none is left.

A row (numbers, bound, loose) tells that the numbers times place and speed at tick 0, and all pushes, come to the bound
at most, or, if loose is 0, to less.
"""

import itertools
from fractions import Fraction

from tests.elimination import axis_rows, place_at, speed_at


def strict_rows(last, beyond):
    """Rows of (tick, p, q, low, high) that tell more than low, or less than high."""
    rows = []
    for tick, p, q, low, high in beyond:
        both = [p * place + q * speed for place, speed in zip(place_at(0, tick, last), speed_at(0, tick, last))]
        if low is not None:
            rows.append(([-one for one in both], -Fraction(low), 0))
        if high is not None:
            rows.append((both, Fraction(high), 0))
    return rows


def tidied(rows):
    """The tightest row of each direction."""
    best = {}
    for numbers, bound, loose in rows:
        lead = next((abs(one) for one in numbers if one != 0), 1)
        key = tuple([one / lead for one in numbers])
        best[key] = min(best.get(key, (bound / lead, loose)), (bound / lead, loose))
    return [(numbers, bound, loose) for numbers, (bound, loose) in best.items()]


def without_one(rows, at):
    """Rows of all but one of the numbers that can be just where the rows can."""
    left = [row for row in rows if row[0][at] == 0]
    above = [row for row in rows if row[0][at] > 0]
    below = [row for row in rows if row[0][at] < 0]
    for (one, bound, loose), (other, other_bound, other_loose) in itertools.product(above, below):
        up, down = -other[at], one[at]
        left.append(([up * here + down * there for here, there in zip(one, other)],
                     up * bound + down * other_bound, min(loose, other_loose)))
    return tidied(left)


def can_be(rule, last, cuts, beyond=()):
    """Whether some MOTION of one axis keeps the cuts, and goes beyond the strict ones."""
    rows = [(row, bound, 1) for row, bound in axis_rows(rule, last, 0, cuts)]
    rows = tidied(rows + strict_rows(last, beyond))
    left = set(range(2 + last))
    while left:
        def cost(at):
            return sum(row[0][at] > 0 for row in rows) * sum(row[0][at] < 0 for row in rows)
        at = min(left, key=cost)
        left.remove(at)
        rows = without_one(rows, at)
    return all(bound > 0 or bound == 0 and loose for _, bound, loose in rows)


class Model:
    """What some MOTION of a BOOK can do, each question answered once."""

    def __init__(self, book):
        self.book = book
        self.names = sorted({reading[0] for reading in book.readings})
        self.known = {}

    def axis_can(self, axis, cuts, beyond):
        key = (axis, frozenset(cuts), frozenset(beyond))
        if key not in self.known:
            self.known[key] = can_be(self.book.rules[axis], self.book.last, sorted(set(cuts), key=str), beyond)
        return self.known[key]

    def some(self, cuts, beyond=()):
        """Whether some MOTION keeps the cuts of all axes; here a cut is (axis, tick, p, q, low, high)."""
        for axis in range(len(self.book.rules)):
            kept = [told[1:] for told in cuts if told[0] == axis]
            if not self.axis_can(axis, kept, [told[1:] for told in beyond if told[0] == axis]):
                return False
        return True

    def suspects(self):
        """All lots of sources that may be wrong, not only the greatest."""
        for many in range(min(self.book.wrong, len(self.names)) + 1):
            yield from itertools.combinations(self.names, many)

    def ways(self, numbers):
        """All ways to let these READINGS be so, as tuples of cuts."""
        told = [self.book.readings[number] for number in numbers]
        for ticks in itertools.product(*[range(reading[2], reading[3] + 1) for reading in told]):
            yield tuple([(reading[1], tick) + reading[4:] for reading, tick in zip(told, ticks)])

    def numbers(self, wrong):
        return [number for number, reading in enumerate(self.book.readings) if reading[0] not in wrong]

    def can_be_right(self, source):
        """Whether some WORLD has the source right."""
        return any(self.some(way) for wrong in self.suspects() if source not in wrong
                   for way in self.ways(self.numbers(wrong)))

    def can_be_kept(self, number):
        """Whether some WORLD fulfils this READING."""
        return any(self.some(way) for wrong in self.suspects()
                   for way in self.ways(sorted(set(self.numbers(wrong)) | {number})))

    def barring(self, number):
        """All ways not to let a READING be so, as tuples of strict cuts."""
        source, axis, first, last, p, q, low, high = self.book.readings[number]
        sides = ([(None, low)] if low is not None else []) + ([(high, None)] if high is not None else [])
        for chosen in itertools.product(sides, repeat=last - first + 1):
            yield tuple([(axis, first + at, p, q) + side for at, side in enumerate(chosen)])

    def can_be_barred(self, number):
        """Whether some WORLD bars this READING."""
        source = self.book.readings[number][0]
        return any(self.some(way, beyond) for wrong in self.suspects() if source in wrong
                   for way in self.ways(self.numbers(wrong)) for beyond in self.barring(number))

    def can_be_wrong(self, source):
        """Whether some WORLD bars a READING of this source."""
        return any(self.can_be_barred(number) for number, reading in enumerate(self.book.readings)
                   if reading[0] == source)


def word(one, other, first, second):
    """The word for what can be, and for the opposite."""
    return {(True, False): first, (False, True): second, (True, True): "open", (False, False): "none"}[(one, other)]
