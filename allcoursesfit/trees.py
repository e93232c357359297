"""TREES of sums: they show that no WORLD has a STATE."""

from allcoursesfit.books import are_sources, need_book
from allcoursesfit.errors import BadSources
from allcoursesfit.limits import is_from_to, need_state, need_tick
from allcoursesfit.readings import is_unsure
from allcoursesfit.refutals import sum_against, trial_of
from allcoursesfit.steps import Steps
from allcoursesfit.sums import added_up, are_entries, row_table


def suspected(book, entries, right):
    """The ascending list of the sources of the READINGS in a SUM, but those held to be right."""
    numbers = [row[1] for row, weight in entries if row[0] == "reading"]
    names = {book.readings[number][0]: True for number in numbers}
    return sorted([name for name in names if name not in right])


class Doubt:
    """What is asked: has some WORLD, in whose wrong sources none of right is, a STATE at a tick? And what was found.

    named tells of the sources that are held to be wrong, ascending; chosen, for each READING, at which tick it is held
    to be so, None if that is open.
    """

    def __init__(self, book, tick, state, right):
        self.book = book
        self.tick = tick
        self.state = state
        self.right = right
        self.steps = Steps(book.rules)
        self.trees = {}

    def first_chosen(self):
        """For each READING its only tick, None if it has several."""
        return tuple([None if is_unsure(reading) else reading[2] for reading in self.book.readings])

    def held(self, axis, named, chosen):
        """The list of the numbers of the READINGS of an axis that are held to be so, each with its tick."""
        found = []
        for number, reading in enumerate(self.book.readings):
            if reading[1] == axis and reading[0] not in named and chosen[number] is not None:
                found.append((number, chosen[number]))
        return found

    def open_reading(self, named, chosen):
        """The number of the first READING, of no named source, of which no tick is chosen; None if there is none."""
        for number, reading in enumerate(self.book.readings):
            if reading[0] not in named and chosen[number] is None:
                return number
        return None

    def tree(self, named, chosen):
        """A TREE, None if there is none."""
        if (named, chosen) not in self.trees:
            self.trees[(named, chosen)] = self.new_tree(named, chosen)
        return self.trees[(named, chosen)]

    def new_tree(self, named, chosen):
        """A TREE, None if there is none: of a sum, if there is one, otherwise of the ticks of some READING."""
        for axis in range(len(self.book.rules)):
            held = self.held(axis, named, chosen)
            entries = sum_against(trial_of(self.steps, self.book, self.tick, self.state, axis, held))
            if entries is not None:
                branches = self.branches(named, chosen, entries)
                if branches is None:
                    return None
                return ("sum", axis, entries, branches)
        number = self.open_reading(named, chosen)
        if number is None:
            return None
        trees = self.tick_trees(named, chosen, number)
        if trees is None:
            return None
        return ("ticks", number, trees)

    def branches(self, named, chosen, entries):
        """The tuple of (source, TREE) behind a SUM, None if there is none."""
        if len(named) == self.book.wrong:
            return ()
        found = ()
        for name in suspected(self.book, entries, self.right):
            tree = self.tree(tuple(sorted(named + (name,))), chosen)
            if tree is None:
                return None
            found = found + ((name, tree),)
        return found

    def tick_trees(self, named, chosen, number):
        """The tuple of a TREE for each tick of a READING, None if there is none."""
        reading = self.book.readings[number]
        found = ()
        for tick in range(reading[2], reading[3] + 1):
            tree = self.tree(named, chosen[:number] + (tick,) + chosen[number + 1:])
            if tree is None:
                return None
            found = found + (tree,)
        return found


def is_held(doubt, named, chosen, row):
    """Whether a ROW is none of a READING, or one of a READING of no named source at the tick that is chosen."""
    if row[0] != "reading":
        return True
    return doubt.book.readings[row[1]][0] not in named and chosen[row[1]] == row[2]


def is_sum(doubt, named, chosen, axis, value):
    """Whether any value is a SUM of an axis, of ROWS that are held to be so."""
    table = row_table(doubt.book, doubt.tick, doubt.state, axis)
    if not are_entries(table, value):
        return False
    terms, number = added_up(table, value)
    return terms == () and number[0] < 0 and all([is_held(doubt, named, chosen, row) for row, weight in value])


def is_branch(doubt, named, chosen, name, value):
    """Whether any value is a pair of this source and a TREE with it named, too."""
    if not isinstance(value, tuple) or len(value) != 2 or value[0] != name:
        return False
    return is_tree(doubt, named + (name,), chosen, value[1])


def is_sum_tree(doubt, named, chosen, value):
    """Whether a tuple is a TREE that begins with a SUM."""
    book = doubt.book
    if len(value) != 4 or value[0] != "sum" or not is_from_to(value[1], 0, len(book.rules) - 1):
        return False
    word, axis, entries, branches = value
    if not is_sum(doubt, named, chosen, axis, entries) or not isinstance(branches, tuple):
        return False
    names = []
    if len(named) < book.wrong:
        names = suspected(book, entries, doubt.right)
    if len(branches) != len(names):
        return False
    return all([is_branch(doubt, named, chosen, name, branch) for name, branch in zip(names, branches)])


def is_ticks_tree(doubt, named, chosen, value):
    """Whether a tuple is a TREE that begins with the ticks of a READING."""
    readings = doubt.book.readings
    if len(value) != 3 or value[0] != "ticks" or not is_from_to(value[1], 0, len(readings) - 1):
        return False
    word, number, trees = value
    ticks = list(range(readings[number][2], readings[number][3] + 1))
    if chosen[number] is not None or not isinstance(trees, tuple) or len(trees) != len(ticks):
        return False
    ahead, behind = chosen[:number], chosen[number + 1:]
    return all([is_tree(doubt, named, ahead + (tick,) + behind, tree) for tick, tree in zip(ticks, trees)])


def is_tree(doubt, named, chosen, value):
    """Whether any value is a TREE with these sources named and these ticks chosen."""
    if not isinstance(value, tuple):
        return False
    return is_sum_tree(doubt, named, chosen, value) or is_ticks_tree(doubt, named, chosen, value)


def asked(book, tick, state, right):
    """The Doubt of these; NoBook, BadTick, BadState or BadSources unless they are as they should be."""
    need_book(book)
    need_tick(tick, book.last)
    if state is not None:
        need_state(state, len(book.rules))
    if not are_sources(book, right):
        raise BadSources(right)
    return Doubt(book, tick, state, right)


def refuted(book, tick, state, right):
    """Any TREE; None if some WORLD, none of whose wrong sources is in right, has this STATE at this tick."""
    doubt = asked(book, tick, state, right)
    return doubt.tree((), doubt.first_chosen())


def shows_refuted(book, tick, state, right, value):
    """Whether refuted may tell value."""
    doubt = asked(book, tick, state, right)
    if value is None:
        return doubt.tree((), doubt.first_chosen()) is None
    return is_tree(doubt, (), doubt.first_chosen(), value)
