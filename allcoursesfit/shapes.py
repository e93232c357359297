"""SHAPES: bounded convex lots of POINTS of the plane of place and speed, told by their corners."""

from allcoursesfit.errors import BadBounds, BadNumber, BadShape
from allcoursesfit.planes import common, cut, doubled_area, ends_of, hull_of, leaned, place_in, spread
from allcoursesfit.points import is_point, need_point, need_points, need_weights, read_words, words_of
from allcoursesfit.ratios import is_whole, times


def is_shape(value):
    """Whether any value is a SHAPE: there is one way alone to tell a lot by its corners, that of the hull."""
    if not isinstance(value, tuple) or not all([is_point(point) for point in value]):
        return False
    return hull_of(value) == value


def need_shape(value):
    """Raises BadShape unless value is a SHAPE."""
    if not is_shape(value):
        raise BadShape(value)


def need_bounds(low, high):
    """Raises BadBounds unless each is an integer or None, and low is not above high where both are integers."""
    if low is not None and not is_whole(low):
        raise BadBounds((low, high))
    if high is not None and not is_whole(high):
        raise BadBounds((low, high))
    if low is not None and high is not None and low > high:
        raise BadBounds((low, high))


def hull(points):
    """The SHAPE of the least convex lot in which all of these POINTS lie."""
    need_points(points)
    return hull_of(points)


def clipped(shape, p, q, low, high):
    """The SHAPE of those POINTS of shape whose form is at least low and at most high; None is no bound."""
    need_shape(shape)
    need_weights(p, q)
    need_bounds(low, high)
    left = shape
    if low is not None:
        left = cut(left, (p, q, -low))
    if high is not None:
        left = cut(left, (-p, -q, high))
    return left


def sheared(shape, by):
    """The SHAPE of all POINTS (x + by v, v), for (x, v) in shape, by being 1 or -1."""
    need_shape(shape)
    if not is_whole(by) or by not in (1, -1):
        raise BadNumber(by)
    return leaned(shape, by)


def stretched(shape, low, high):
    """The SHAPE of all POINTS (x, v + a), for (x, v) in shape and a from low to high."""
    need_shape(shape)
    if low is None or high is None:
        raise BadBounds((low, high))
    need_bounds(low, high)
    return spread(shape, low, high)


def both(one, other):
    """The SHAPE of the POINTS that lie in both."""
    need_shape(one)
    need_shape(other)
    return common(one, other)


def where(shape, point):
    """-1 if point does not lie in shape, 1 if shape is on all sides round about it, otherwise 0."""
    need_shape(shape)
    need_point(point)
    return place_in(shape, point)


def ends(shape, p, q):
    """The least and the greatest that the form comes to in shape, each with the first corner for it; None for ()."""
    need_shape(shape)
    need_weights(p, q)
    return ends_of(shape, p, q)


def area(shape):
    """The FRACTION that is the area of shape."""
    need_shape(shape)
    return times(doubled_area(shape), (1, 2))


def shape_text(shape):
    """The text of a SHAPE: those of its POINTS, joined; the empty one for ()."""
    need_shape(shape)
    return "; ".join([words_of(point) for point in shape])


def read_shape(text):
    """The SHAPE that has this text."""
    if not isinstance(text, str):
        raise BadShape(text)
    if text == "":
        return ()
    shape = tuple([read_words(part) for part in text.split("; ")])
    if not is_shape(shape):
        raise BadShape(text)
    return shape
