"""What is told of one axis, as texts that one can look at."""

from allcoursesfit.books import need_book
from allcoursesfit.errors import BadBounds
from allcoursesfit.limits import is_from_to, need_axis, need_tick
from allcoursesfit.lots import fits_of
from allcoursesfit.planes import ends_of, place_by, sides_of
from allcoursesfit.ratios import is_below, is_whole
from allcoursesfit.steps import Steps


def need_window(value):
    """Raises BadBounds unless value is (low, high), integers, high not below low and at most 59 more."""
    if not isinstance(value, tuple) or len(value) != 2 or not is_whole(value[0]):
        raise BadBounds(value)
    if not is_from_to(value[1], value[0], value[0] + 59):
        raise BadBounds(value)


def shapes_on(steps, book, axis, tick):
    """The list of the unlike SHAPES of an axis that fit at a tick."""
    return list({shapes[axis]: True for wrong, ticks, shapes in fits_of(steps, book, tick)})


def point_sign(rule, rims, place, speed):
    """The sign of a POINT with whole numbers; rims a list of the sides of each SHAPE."""
    told = [place_by(sides, ((place, 1), (speed, 1))) for sides in rims]
    if 1 in told:
        return "#"
    if 0 in told:
        return "o"
    if rule[0] <= place <= rule[1] and rule[2] <= speed <= rule[3]:
        return "."
    return "-"


def place_sign(rule, spans, place):
    """The sign of an integer place; spans a list of the least and the greatest place of each SHAPE."""
    for least, greatest in spans:
        if not is_below((place, 1), least) and not is_below(greatest, (place, 1)):
            return "#"
    if rule[0] <= place <= rule[1]:
        return "."
    return "-"


def place_span(shape):
    """The least and the greatest place in a SHAPE, one with some POINT."""
    least, greatest = ends_of(shape, 1, 0)
    return (least[0], greatest[0])


def picture(book, axis, tick, places, speeds):
    """The places and speeds of an axis at a tick: a line for each speed, the greatest first."""
    need_book(book)
    need_axis(axis, len(book.rules))
    need_tick(tick, book.last)
    need_window(places)
    need_window(speeds)
    rule = book.rules[axis]
    rims = [sides_of(shape) for shape in shapes_on(Steps(book.rules), book, axis, tick)]
    row = list(range(places[0], places[1] + 1))
    lines = []
    for speed in range(speeds[1], speeds[0] - 1, -1):
        lines.append("".join([point_sign(rule, rims, place, speed) for place in row]))
    return "\n".join(lines)


def course(book, axis, places):
    """The places of an axis: a line for each tick."""
    need_book(book)
    need_axis(axis, len(book.rules))
    need_window(places)
    steps = Steps(book.rules)
    row = list(range(places[0], places[1] + 1))
    lines = []
    for tick in range(book.last + 1):
        spans = [place_span(shape) for shape in shapes_on(steps, book, axis, tick)]
        lines.append("".join([place_sign(book.rules[axis], spans, place) for place in row]))
    return "\n".join(lines)
