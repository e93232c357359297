"""Convex lots of POINTS, told by their corners as SHAPES are; nothing that is handed in is looked over here.

All is reckoned in integers: a POINT as (x, v, w), w from 1 on, its place x / w and its speed v / w; a
*side*, a half of the plane, as (p, q, r): where p times the place, q times the speed and r come to 0 or more.
"""

from allcoursesfit.points import in_sequence, weighed
from allcoursesfit.ratios import is_below, plus, reduced


def lifted(point):
    """The integers (x, v, w) of a POINT."""
    place, speed = point
    return (place[0] * speed[1], speed[0] * place[1], place[1] * speed[1])


def at_side(side, point):
    """An integer above 0 within the side, below 0 without, 0 on its line; w times what the side comes to."""
    p, q, r = side
    x, v, w = lifted(point)
    return p * x + q * v + r * w


def side_left(one, other):
    """The side to the left of the way from one POINT to the other, if they are unlike."""
    x, v, w = lifted(one)
    far_x, far_v, far_w = lifted(other)
    return (v * far_w - w * far_v, w * far_x - x * far_w, x * far_v - v * far_x)


def edges(corners):
    """The list of all corners, each with the one behind it, the last with the first."""
    return list(zip(corners, corners[1:] + corners[:1]))


def half_rim(points):
    """The corners from the first POINT to the last of a sorted list, such that no POINT is to the right of them."""
    rim = []
    for point in points:
        while len(rim) > 1 and at_side(side_left(rim[-2], rim[-1]), point) <= 0:
            rim.pop()
        rim.append(point)
    return rim


def hull_of(points):
    """The SHAPE of the least convex lot with these POINTS."""
    row = in_sequence(points)
    if len(row) < 3:
        return tuple(row)
    return tuple(half_rim(row)[:-1] + half_rim(row[::-1])[:-1])


def crossing(side, one, other):
    """The POINT on the line of the side that lies between two POINTS, one within it and one without."""
    near, far = at_side(side, one), at_side(side, other)
    x, v, w = lifted(one)
    far_x, far_v, far_w = lifted(other)
    under = near * far_w - far * w
    return (reduced(near * far_x - far * x, under), reduced(near * far_v - far * v, under))


def cut(corners, side):
    """The SHAPE of what lies in a SHAPE and in a side."""
    kept = [point for point in corners if at_side(side, point) >= 0]
    if len(kept) == len(corners):
        return corners
    for one, other in edges(corners):
        if at_side(side, one) * at_side(side, other) < 0:
            kept.append(crossing(side, one, other))
    return hull_of(kept)


def box_sides(corners):
    """The four sides that bound place and speed of a SHAPE of one or two POINTS."""
    left, right = corners[0][0], corners[-1][0]
    low, high = corners[0][1], corners[-1][1]
    if is_below(high, low):
        low, high = high, low
    places = [(left[1], 0, -left[0]), (-right[1], 0, right[0])]
    return places + [(0, low[1], -low[0]), (0, -high[1], high[0])]


def sides_of(corners):
    """The sides in all of which a POINT lies just if it lies in the SHAPE, one with some POINT."""
    sides = [side_left(one, other) for one, other in edges(corners)]
    if len(corners) < 3:
        return sides + box_sides(corners)
    return sides


def common(one, other):
    """The SHAPE of what lies in two SHAPES."""
    if len(other) == 0:
        return ()
    left = one
    for side in sides_of(other):
        left = cut(left, side)
    return left


def place_by(sides, point):
    """-1 for a POINT without one of the sides, one or more; 0 for one on the line of one of them; otherwise 1."""
    least = min([at_side(side, point) for side in sides])
    if least < 0:
        return -1
    if least == 0:
        return 0
    return 1


def place_in(corners, point):
    """-1 for a POINT without a SHAPE, 1 for one with the SHAPE on all sides round about, otherwise 0."""
    if len(corners) == 0:
        return -1
    return place_by(sides_of(corners), point)


def ends_of(corners, p, q):
    """The least and the greatest that the form comes to in a SHAPE, each with the first corner for it; None for ()."""
    if len(corners) == 0:
        return None
    least = greatest = (weighed(corners[0], p, q), corners[0])
    for corner in corners:
        told = weighed(corner, p, q)
        if is_below(told, least[0]):
            least = (told, corner)
        if is_below(greatest[0], told):
            greatest = (told, corner)
    return (least, greatest)


def leaned(corners, by):
    """The SHAPE of all (x + by v, v), for (x, v) in a SHAPE."""
    return hull_of([(plus(place, (by * speed[0], speed[1])), speed) for place, speed in corners])


def spread(corners, low, high):
    """The SHAPE of all (x, v + a), for (x, v) in a SHAPE and a from low to high."""
    lowest = [(place, plus(speed, (low, 1))) for place, speed in corners]
    highest = [(place, plus(speed, (high, 1))) for place, speed in corners]
    return hull_of(lowest + highest)


def doubled_area(corners):
    """The FRACTION that is twice the area of a SHAPE."""
    total = (0, 1)
    for one, other in edges(corners):
        x, v, w = lifted(one)
        far_x, far_v, far_w = lifted(other)
        total = plus(total, reduced(x * far_v - v * far_x, w * far_w))
    return total
