"""What is left of the WORLDS of a BOOK, once ASKS were answered, and to what a FORM, the goal, comes in it.

Answers are an ascending tuple of unlike pairs (number of an ASK, yes), yes being True or False.
"""

from allcoursesfit.lots import choices_of, cuts_of
from allcoursesfit.planes import ends_of
from allcoursesfit.questions import wider
from allcoursesfit.ratios import is_below, minus, times
from allcoursesfit.steps import Steps, as_cuts


def answer_cut(ask, yes):
    """The cut that an answer tells; the number itself is let in, also where the answer is no."""
    axis, tick, p, q, number = ask
    top, bottom = number
    if yes:
        return (tick, p * bottom, q * bottom, top, None)
    return (tick, p * bottom, q * bottom, None, top)


def lies_within(one, other):
    """Whether one (low, high) lies in another one."""
    return not is_below(one[0], other[0]) and not is_below(other[1], one[1])


def and_answer(answers, number, yes):
    """The answers with one more."""
    return tuple(sorted(list({told: True for told in answers + ((number, yes),)})))


def worse(one, other):
    """The greater one of two errors; None, where nothing is left, is none."""
    if one is None:
        return other
    if other is None or is_below(other, one):
        return one
    return other


class Inquiry:
    """A BOOK, ASKS, and a goal; and for answers what is left, reckoned once and kept.

    A case is a tuple, for each axis, of the cuts that a CHOICE tells for it. What is left is told as (ends, cases):
    ends the (low, high) of the goal, None if nothing is left, and cases the list of (ends, case) of those cases that
    may be left: none of them goes beyond the ends that stand with it.
    """

    def __init__(self, book, asks, goal):
        self.book = book
        self.asks = asks
        self.goal = goal
        self.steps = Steps(book.rules)
        self.known = {}

    def first_cases(self):
        """The list of all unlike cases."""
        axes = list(range(len(self.book.rules)))
        return list({tuple([cuts_of(self.book, choice, axis) for axis in axes]): True
                     for choice in choices_of(self.book)})

    def cuts_by(self, case, answers, axis):
        """The cuts for an axis that a case and answers tell."""
        told = [answer_cut(self.asks[number], yes) for number, yes in answers if self.asks[number][0] == axis]
        return as_cuts(list(case[axis]) + told)

    def goes_below(self, ask, cuts):
        """Whether the ASK is answered by no in some MOTION of its axis that fulfils the cuts, if any does."""
        axis, tick, p, q, number = ask
        least, greatest = ends_of(self.steps.lot(axis, tick, cuts, self.book.last), p, q)
        return is_below(least[0], number)

    def is_left(self, axis, cuts, answers):
        """Whether some MOTION of an axis fulfils the cuts, and comes to less than the number where the answer is no.

        If for each answer some MOTION does, what is halfway between them does so for all; and then the goal comes, as
        near as one likes, to whatever it comes to where the numbers themselves are let in.
        """
        if self.steps.backward(axis, 0, cuts, self.book.last) == ():
            return False
        below = [self.asks[number] for number, yes in answers if not yes and self.asks[number][0] == axis]
        return all([self.goes_below(ask, cuts) for ask in below])

    def case_ends(self, case, answers):
        """The (low, high) of the goal in what answers leave of a case, None if nothing is left."""
        rows = [self.cuts_by(case, answers, axis) for axis in range(len(case))]
        for axis, cuts in enumerate(rows):
            if not self.is_left(axis, cuts, answers):
                return None
        axis, tick, p, q = self.goal
        low, high = ends_of(self.steps.lot(axis, tick, rows[axis], self.book.last), p, q)
        return (low[0], high[0])

    def narrowed(self, cases, answers):
        """What is left by answers of a list of (ends, case), those of fewer answers; ends None if they aren't known.

        A case whose ends, by fewer answers, lie within what is found so far adds nothing: it isn't looked at anew.
        """
        found = None
        kept = []
        for known, case in cases:
            ends = known
            if found is None or known is None or not lies_within(known, found):
                ends = self.case_ends(case, answers)
                found = wider(found, ends)
            if ends is not None:
                kept.append((ends, case))
        return (found, kept)

    def left(self, answers):
        """(ends, cases): what is left by answers."""
        if answers not in self.known:
            if answers == ():
                cases = [(None, case) for case in self.first_cases()]
            else:
                cases = self.left(answers[:-1])[1]
            self.known[answers] = self.narrowed(cases, answers)
        return self.known[answers]

    def error(self, answers):
        """The error left, None if nothing is left."""
        ends = self.left(answers)[0]
        if ends is None:
            return None
        return times(minus(ends[1], ends[0]), (1, 2))

    def worth(self, plan, answers):
        """The greatest error at the ends of a PLAN behind answers, None if nothing is left."""
        if plan is None or self.error(answers) is None:
            return self.error(answers)
        number, yes, no = plan
        told = self.worth(yes, and_answer(answers, number, True))
        return worse(told, self.worth(no, and_answer(answers, number, False)))

    def best(self, depth, answers):
        """(worth, PLAN): the least worth behind answers of a PLAN of this depth or less, and the first such PLAN."""
        least, plan = self.error(answers), None
        if depth == 0 or least is None:
            return (least, plan)
        for number in range(len(self.asks)):
            told, yes = self.best(depth - 1, and_answer(answers, number, True))
            if told is None or is_below(told, least):
                other, no = self.best(depth - 1, and_answer(answers, number, False))
                told = worse(told, other)
                if is_below(told, least):
                    least, plan = told, (number, yes, no)
        return (least, plan)
