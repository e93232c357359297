"""FORMS, ASKS and AREAS of a BOOK: what they are."""

from allcoursesfit.errors import BadAsk, BadForm
from allcoursesfit.limits import is_from_to
from allcoursesfit.ratios import is_below, is_fraction
from allcoursesfit.shapes import is_shape


def are_weights(p, q):
    """Whether any two values are what a FORM takes the place and the speed times."""
    return is_from_to(p, -9, 9) and is_from_to(q, -9, 9) and (p != 0 or q != 0)


def is_form(book, value):
    """Whether any value is a FORM of the book."""
    if not isinstance(value, tuple) or len(value) != 4:
        return False
    axis, tick, p, q = value
    return is_from_to(axis, 0, len(book.rules) - 1) and is_from_to(tick, 0, book.last) and are_weights(p, q)


def need_form(book, value):
    """Raises BadForm unless value is a FORM of the book."""
    if not is_form(book, value):
        raise BadForm(value)


def is_ask(book, value):
    """Whether any value is an ASK of the book."""
    return isinstance(value, tuple) and len(value) == 5 and is_form(book, value[:4]) and is_fraction(value[4])


def need_ask(book, value):
    """Raises BadAsk unless value is an ASK of the book."""
    if not is_ask(book, value):
        raise BadAsk(value)


def is_area(book, value):
    """Whether any value is an AREA of the book."""
    return isinstance(value, tuple) and len(value) == len(book.rules) and all([is_shape(shape) for shape in value])


def wider(one, other):
    """The least (low, high) in which two such lie; None stands for nothing."""
    if one is None:
        return other
    if other is None:
        return one
    low, high = one
    if is_below(other[0], low):
        low = other[0]
    if is_below(high, other[1]):
        high = other[1]
    return (low, high)
