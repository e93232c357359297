"""All errors of the package: FitError, and directly below it each of the others."""


class FitError(ValueError):
    """Something that was handed in cannot stand; value is what it was."""

    def __init__(self, value):
        self.value = value


class BadPoint(FitError):
    """What should be a POINT, or its text, is none."""


class BadNumber(FitError):
    """What should be a number of the kind asked for is none."""


class BadForm(FitError):
    """What should be a FORM of the book is none."""


class BadShape(FitError):
    """What should be a SHAPE, or its text, is none."""


class BadRules(FitError):
    """What should be RULES is none."""


class BadLast(FitError):
    """What should be a LAST is none."""


class BadTick(FitError):
    """What should be a tick from 0 to LAST is none."""


class BadAxis(FitError):
    """What should be the number of an axis is none."""


class BadState(FitError):
    """What should be a STATE of as many axes as asked for is none."""


class BadMotion(FitError):
    """What should be a MOTION is none."""


class BadReading(FitError):
    """What should be a READING, or its text, is none."""


class BadReadings(FitError):
    """What should be READINGS is none."""


class BadWrong(FitError):
    """What should be a WRONG is none."""


class BadBook(FitError):
    """A text is not that of a BOOK; value is the number of a line."""


class NoBook(FitError):
    """What should be a BOOK is none."""


class NoSource(FitError):
    """No source of the book has this NAME."""


class BadAsks(FitError):
    """What should be ASKS is none."""


class NoReading(FitError):
    """No READING has this number."""


class NothingToUndo(FitError):
    """No deed stands that could be undone."""


class NothingToRedo(FitError):
    """No deed was undone that could be done again."""


class NoBlock(FitError):
    """A trial was to be kept outside of all trials."""


class BadJournal(FitError):
    """A text is not a journal; value is the number of a line."""


class BadTask(FitError):
    """What should be a line for a bench or a desk is none."""


class BadMarks(FitError):
    """What should be marks, pairs of tick and STATE, is none."""


class BadStates(FitError):
    """What should be a tuple of STATES is none."""


class BadPoints(FitError):
    """What should be a tuple of none to 60 POINTS is none."""


class BadBounds(FitError):
    """What should be a lower and an upper bound is none."""


class BadAsk(FitError):
    """What should be an ASK is none."""


class Full(FitError):
    """There can be no further tick."""


class BadArea(FitError):
    """What should be an AREA is none."""


class BadPlan(FitError):
    """What should be a PLAN of the ASKS is none."""


class BadChoice(FitError):
    """What should be a CHOICE of the book is none."""


class BadRule(FitError):
    """What should be a RULE is none."""


class Apart(FitError):
    """Two MOTIONS do not go together."""


class BadPart(FitError):
    """What should be a FRACTION from 0 to 1 is none."""


class BadLine(FitError):
    """A text is not that of a MOTION; value is the number of a line."""


class NoTracker(FitError):
    """What should be a Tracker is none."""


class BadSum(FitError):
    """What should be ROWS with their weights is none."""


class BadSources(FitError):
    """What should be sources of the book is none."""


class BadWeights(FitError):
    """What should be two integers, not both 0, is none."""
