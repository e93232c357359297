"""Between which bounds a FORM surely lies, and in which AREAS the STATES do."""

from allcoursesfit.books import is_world, need_book
from allcoursesfit.errors import BadArea
from allcoursesfit.limits import need_tick
from allcoursesfit.lots import fits_of
from allcoursesfit.planes import common, ends_of, place_in
from allcoursesfit.points import weighed
from allcoursesfit.questions import is_area, need_ask, need_form
from allcoursesfit.ratios import is_below, is_fraction, minus, plus, times
from allcoursesfit.steps import Steps
from allcoursesfit.worlds import motion_with, point_cuts, world_of


def extremes(steps, book, form):
    """(least, greatest) of a FORM, each as (FRACTION, POINT, CHOICE), the POINT one at which it does; None for none."""
    axis, tick, p, q = form
    least = greatest = None
    for wrong, ticks, shapes in fits_of(steps, book, tick):
        low, high = [end + ((wrong, ticks),) for end in ends_of(shapes[axis], p, q)]
        if least is None or is_below(low[0], least[0]):
            least = low
        if greatest is None or is_below(greatest[0], high[0]):
            greatest = high
    if least is None:
        return None
    return (least, greatest)


def span(steps, book, form):
    """The least and the greatest FRACTION to which a FORM comes, None if there is no WORLD."""
    found = extremes(steps, book, form)
    if found is None:
        return None
    return (found[0][0], found[1][0])


def world_at(steps, book, form, end):
    """A WORLD that fits the CHOICE of an end, with its POINT on the FORM's axis at its tick."""
    number, point, choice = end
    return world_of(book, motion_with(steps, book, choice, point_cuts(form[0], form[1], point)))


def comes_to(form, motion):
    """The FRACTION to which a FORM comes in a MOTION."""
    axis, tick, p, q = form
    return weighed(motion[tick][axis], p, q)


def is_end(book, form, number, value):
    """Whether any value is a WORLD in which the FORM comes to a number."""
    return is_world(book, value) and comes_to(form, value[0]) == number


def bounds(book, form):
    """(least, greatest, one, other): to what the FORM comes, and WORLDS in which it does; None if there is no WORLD."""
    need_book(book)
    need_form(book, form)
    steps = Steps(book.rules)
    found = extremes(steps, book, form)
    if found is None:
        return None
    least, greatest = found
    return (least[0], greatest[0], world_at(steps, book, form, least), world_at(steps, book, form, greatest))


def shows_bounds(book, form, value):
    """Whether bounds may tell value."""
    need_book(book)
    need_form(book, form)
    found = span(Steps(book.rules), book, form)
    if found is None or value is None:
        return found is None and value is None
    if not isinstance(value, tuple) or len(value) != 4:
        return False
    least, greatest, one, other = value
    if not is_fraction(least) or not is_fraction(greatest) or (least, greatest) != found:
        return False
    return is_end(book, form, least, one) and is_end(book, form, greatest, other)


def middle_of(found):
    """(number, error): the number half way between two, and how far it is from each."""
    least, greatest = found
    return (times(plus(least, greatest), (1, 2)), times(minus(greatest, least), (1, 2)))


def middle(book, form):
    """(number, error): what to tell of the FORM so that it errs least; None if there is no WORLD."""
    need_book(book)
    need_form(book, form)
    found = span(Steps(book.rules), book, form)
    if found is None:
        return None
    return middle_of(found)


def is_sure(steps, book, ask):
    """Whether the answer to an ASK is yes in all WORLDS."""
    found = span(steps, book, ask[:4])
    return found is None or not is_below(found[0], ask[4])


def surely(book, ask):
    """Whether the answer is yes in all WORLDS."""
    need_book(book)
    need_ask(book, ask)
    return is_sure(Steps(book.rules), book, ask)


def can_be(book, ask):
    """Whether the answer is yes in some WORLD."""
    need_book(book)
    need_ask(book, ask)
    found = span(Steps(book.rules), book, ask[:4])
    return found is not None and not is_below(found[1], ask[4])


def first_sure(book, ask):
    """The least tick, from that of the ASK on, at which the answer is surely yes; None if there is none."""
    need_book(book)
    need_ask(book, ask)
    steps = Steps(book.rules)
    for tick in range(ask[1], book.last + 1):
        if is_sure(steps, book, (ask[0], tick) + ask[2:]):
            return tick
    return None


def need_area(book, tick, area):
    """Raises NoBook, BadTick or BadArea unless these are a BOOK, and a tick and an AREA of it."""
    need_book(book)
    need_tick(tick, book.last)
    if not is_area(book, area):
        raise BadArea(area)


def can_be_in(book, tick, area):
    """Whether some WORLD has a STATE that lies in the AREA at this tick."""
    need_area(book, tick, area)
    for wrong, ticks, shapes in fits_of(Steps(book.rules), book, tick):
        if () not in [common(shape, part) for shape, part in zip(shapes, area)]:
            return True
    return False


def is_part(shape, other):
    """Whether a SHAPE lies in another one."""
    return all([place_in(other, corner) >= 0 for corner in shape])


def surely_in(book, tick, area):
    """Whether all WORLDS have a STATE that lies in the AREA at this tick."""
    need_area(book, tick, area)
    for wrong, ticks, shapes in fits_of(Steps(book.rules), book, tick):
        if not all([is_part(shape, part) for shape, part in zip(shapes, area)]):
            return False
    return True
