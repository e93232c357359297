"""MOTIONS and WORLDS in other words, by Python's own Fractions, for the tests to compare with."""

from fractions import Fraction

from tests.model import fraction, pair, ring, strictly_point, turn


def strictly_states(value, many):
    """Whether value is a tuple of STATES of so many axes."""
    return type(value) is tuple and all(
        type(state) is tuple and len(state) == many and all(strictly_point(point) for point in state)
        for state in value)


def moves_on_axis(rule, spots):
    """Whether the pairs on one axis are those of a MOTION by the RULE."""
    if not all(rule[0] <= place <= rule[1] and rule[2] <= speed <= rule[3] for place, speed in spots):
        return False
    return all(far == place + speed and rule[4] <= fast - speed <= rule[5]
               for (place, speed), (far, fast) in zip(spots, spots[1:]))


def strictly_motion(rules, value, last=None):
    """Whether value is a MOTION by RULES, for this LAST or for any."""
    if not strictly_states(value, len(rules)) or not 1 <= len(value) <= 13 or last not in (None, len(value) - 1):
        return False
    return all(moves_on_axis(rule, [pair(state[axis]) for state in value]) for axis, rule in enumerate(rules))


def held_ticks(reading, states):
    """The ticks at which what the READING tells is so."""
    source, axis, first, last, p, q, low, high = reading
    held = []
    for tick in range(first, last + 1):
        place, speed = pair(states[tick][axis])
        told = p * place + q * speed
        if (low is None or told >= low) and (high is None or told <= high):
            held.append(tick)
    return held


def wrong_in(readings, motion):
    """The ascending tuple of the sources of which the MOTION does not fulfil some READING."""
    return tuple(sorted({reading[0] for reading in readings if not held_ticks(reading, motion)}))


def strictly_world(book, value):
    """Whether value is a WORLD of the BOOK."""
    if type(value) is not tuple or len(value) != 2 or not strictly_motion(book.rules, value[0], book.last):
        return False
    motion, wrong = value
    if type(wrong) is not tuple or not all(type(name) is str for name in wrong):
        return False
    names = {reading[0] for reading in book.readings}
    if list(wrong) != sorted(set(wrong)) or not set(wrong) <= names or len(wrong) > book.wrong:
        return False
    return set(wrong_in(book.readings, motion)) <= set(wrong)


def meets_along(shape, spot, way, low, high):
    """Whether for some part from low to high the pair spot and part times the pair way lies in the SHAPE."""
    pairs = [pair(corner) for corner in shape]
    if not pairs:
        return False
    sides = []
    if len(pairs) > 2:
        sides = ring(pairs)
    if len(pairs) == 2:
        (x, v), (far_x, far_v) = pairs
        across = (far_v - v, x - far_x)
        sides = [(pairs[0], pairs[1]), (pairs[1], pairs[0]), ((x - across[0], v - across[1]), (x, v)),
                 ((far_x + across[0], far_v + across[1]), (far_x, far_v))]
    if len(pairs) == 1:
        x, v = pairs[0]
        sides = [((x, v), (x + 1, v)), ((x, v), (x, v + 1)), ((x, v), (x - 1, v)), ((x, v), (x, v - 1))]
    ahead = (spot[0] + way[0], spot[1] + way[1])
    for one, other in sides:
        here = turn(one, other, spot)
        grows = turn(one, other, ahead) - here
        if grows > 0:
            low = max(low, -here / grows)
        elif grows < 0:
            high = min(high, -here / grows)
        elif here < 0:
            return False
    return low <= high


def some_push(R, low, high, grain):
    return Fraction(R.randint(low * grain, high * grain), grain)


def drawn_axis(R, rule, last, grain):
    """The pairs of a MOTION on one axis, or None if this draw comes to nothing."""
    spots = [(some_push(R, rule[0], rule[1], grain), some_push(R, rule[2], rule[3], grain))]
    for _ in range(last):
        place, speed = spots[-1]
        low, high = max(rule[4], rule[2] - speed), min(rule[5], rule[3] - speed)
        if low > high:
            return None
        spots.append((place + speed, speed + low + (high - low) * Fraction(R.randint(0, grain), grain)))
    return spots if moves_on_axis(rule, spots) else None


def drawn_motion(R, rules, last, grain=4):
    """A MOTION by RULES, drawn."""
    rows = []
    for rule in rules:
        spots = None
        while spots is None:
            spots = drawn_axis(R, rule, last, grain)
        rows.append(spots)
    return tuple([tuple([(fraction(row[tick][0]), fraction(row[tick][1])) for row in rows])
                  for tick in range(last + 1)])
