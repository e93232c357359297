"""What ASKS leave to be known of a FORM, the goal; and PLANS, which ASK to answer behind which answer."""

from allcoursesfit.books import need_book
from allcoursesfit.errors import BadAsks, BadNumber, BadPlan
from allcoursesfit.inquiries import Inquiry
from allcoursesfit.limits import is_from_to
from allcoursesfit.questions import is_ask, need_ask, need_form


def are_asks(book, value):
    """Whether any value is ASKS of the book."""
    if not isinstance(value, tuple) or len(value) < 1 or len(value) > 12:
        return False
    return all([is_ask(book, ask) for ask in value])


def is_plan(asks, value, depth):
    """Whether any value is a PLAN of ASKS, of this depth or less."""
    if value is None:
        return True
    if depth == 0 or not isinstance(value, tuple) or len(value) != 3:
        return False
    number, yes, no = value
    if not is_from_to(number, 0, len(asks) - 1):
        return False
    return is_plan(asks, yes, depth - 1) and is_plan(asks, no, depth - 1)


def inquiry_of(book, asks, form):
    """The Inquiry of these; NoBook, BadAsks or BadForm unless they are as they should be."""
    need_book(book)
    if not are_asks(book, asks):
        raise BadAsks(asks)
    need_form(book, form)
    return Inquiry(book, asks, form)


def need_depth(value):
    """Raises BadNumber unless value is an integer from 0 to 2."""
    if not is_from_to(value, 0, 2):
        raise BadNumber(value)


def answers(book, ask, form):
    """For yes and for no: the (low, high) of the goal in what is left, None if nothing is."""
    need_book(book)
    need_ask(book, ask)
    need_form(book, form)
    inquiry = Inquiry(book, (ask,), form)
    return tuple([inquiry.left(((0, yes),))[0] for yes in (True, False)])


def worth(book, asks, form, plan):
    """The greatest error that is left at the end of the PLAN; None if there is no WORLD."""
    inquiry = inquiry_of(book, asks, form)
    if not is_plan(asks, plan, 6):
        raise BadPlan(plan)
    return inquiry.worth(plan, ())


def least_left(book, asks, form, depth):
    """The least worth that a PLAN of this depth or less has; None if there is no WORLD."""
    inquiry = inquiry_of(book, asks, form)
    need_depth(depth)
    return inquiry.best(depth, ())[0]


def plan(book, asks, form, depth):
    """Any PLAN of this depth or less with the least worth; None if there is no WORLD."""
    inquiry = inquiry_of(book, asks, form)
    need_depth(depth)
    return inquiry.best(depth, ())[1]


def shows_plan(book, asks, form, depth, value):
    """Whether plan may tell value."""
    inquiry = inquiry_of(book, asks, form)
    need_depth(depth)
    least = inquiry.best(depth, ())[0]
    if least is None:
        return value is None
    return is_plan(asks, value, depth) and inquiry.worth(value, ()) == least


def best_asks(book, asks, form):
    """The ascending tuple of the numbers of those ASKS that leave least; () if not asking leaves no more."""
    inquiry = inquiry_of(book, asks, form)
    least = inquiry.best(1, ())[0]
    if least == inquiry.error(()):
        return ()
    return tuple([number for number in range(len(asks)) if inquiry.worth((number, None, None), ()) == least])
