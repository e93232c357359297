"""The same in other words: convex lots by Python's own Fractions, for the tests to compare with."""

from fractions import Fraction


def pair(point):
    """A POINT as two Fractions."""
    return (Fraction(*point[0]), Fraction(*point[1]))


def fraction(number):
    """A Fraction as a FRACTION."""
    number = Fraction(number)
    return (number.numerator, number.denominator)


def point(place, speed):
    """The POINT with these two numbers."""
    return (fraction(place), fraction(speed))


def strictly_fraction(value):
    """Whether value is a FRACTION, its kinds looked at, too."""
    return (type(value) is tuple and len(value) == 2 and type(value[0]) is int and type(value[1]) is int
            and value[1] > 0 and fraction(Fraction(*value)) == value)


def strictly_point(value):
    return type(value) is tuple and len(value) == 2 and strictly_fraction(value[0]) and strictly_fraction(value[1])


def turn(one, other, third):
    """Above 0 if the way from one to other to third bends to the left."""
    return (other[0] - one[0]) * (third[1] - one[1]) - (other[1] - one[1]) * (third[0] - one[0])


def ring(pairs):
    """Each one with the next."""
    return [(pairs[at - 1], pairs[at]) for at in range(len(pairs))]


def strictly_shape(value):
    """Whether value is a SHAPE: every corner is to the left of every side that it isn't an end of."""
    if type(value) is not tuple or not all(strictly_point(corner) for corner in value):
        return False
    pairs = [pair(corner) for corner in value]
    if len(set(pairs)) != len(pairs) or (pairs and min(pairs) != pairs[0]):
        return False
    return all(turn(one, other, third) > 0
               for one, other in ring(pairs) if len(pairs) > 2 for third in pairs if third not in (one, other))


def lies_in(shape, spot):
    """Whether the pair spot lies in the SHAPE."""
    pairs = [pair(corner) for corner in shape]
    if len(pairs) < 2:
        return spot in pairs
    if len(pairs) == 2:
        return turn(pairs[0], pairs[1], spot) == 0 and pairs[0] <= spot <= pairs[1]
    return all(turn(one, other, spot) >= 0 for one, other in ring(pairs))


def lies_within(shape, spot):
    """Whether the SHAPE is on all sides round about the pair spot."""
    pairs = [pair(corner) for corner in shape]
    return len(pairs) > 2 and all(turn(one, other, spot) > 0 for one, other in ring(pairs))


def on_line(one, other, p, q, bound):
    """The pairs on the stretch from one to other at which p times the place and q times the speed is bound."""
    near = p * one[0] + q * one[1] - bound
    far = p * other[0] + q * other[1] - bound
    if near == far:
        return [one, other] if near == 0 else []
    part = near / (near - far)
    if not 0 <= part <= 1:
        return []
    return [(one[0] + part * (other[0] - one[0]), one[1] + part * (other[1] - one[1]))]


def meets(one, other, low, high):
    """The pairs at which the stretch from one to other meets the one from low to high."""
    p, q = low[1] - high[1], high[0] - low[0]
    if (p, q) == (0, 0):
        return [low] if turn(one, other, low) == 0 and min(one, other) <= low <= max(one, other) else []
    found = on_line(one, other, p, q, p * low[0] + q * low[1])
    return [spot for spot in found if min(low, high) <= spot <= max(low, high)]


def some_shapes(hull):
    """Very many SHAPES: the hulls of all lots of POINTS of a small bent grid, each once."""
    grid = [point(place + Fraction(speed, 3), Fraction(speed, 2) - 1) for place in range(-1, 2) for speed in range(3)]
    found = {}
    for chosen in range(2 ** len(grid)):
        lot = tuple([spot for at, spot in enumerate(grid) if chosen >> at & 1])
        found[hull(lot)] = True
    return list(found)
