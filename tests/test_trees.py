"""Section 10, second part: TREES, and what shows them."""

import itertools
import random
import unittest
from fractions import Fraction

from allcoursesfit.books import Book, read_book
from allcoursesfit.errors import BadSources, BadState, BadSum, BadTick, NoBook
from allcoursesfit.lots import fits, has
from allcoursesfit.sums import rows, summed
from allcoursesfit.trees import refuted, shows_refuted
from allcoursesfit.worlds import any_world, world_with
from tests.courses import wrong_in
from tests.drawn_books import books, small_book, true_book
from tests.elimination import corners, region
from tests.model import pair, point
from tests.test_sums import drawn_state
from tests.wrong import NOT_INTEGERS, OTHERS, SOME, Refusals, nested, points
from tests.wrong_books import FLAT, NOT_BOOKS, NOT_STATES_OF_ONE, ONE, RULE, SIX, exact, unsure


def some_motion(book, tick, state, right):
    """Whether some WORLD, in whose wrong sources none of right is, has the STATE, by the model."""
    names = [name for name in sorted({reading[0] for reading in book.readings}) if name not in right]
    known = {}

    def can(axis, cuts):
        if state is not None:
            place, speed = pair(state[axis])
            cuts = cuts + [(tick, 1, 0, place, place), (tick, 0, 1, speed, speed)]
        key = (axis, tuple(cuts))
        if key not in known:
            known[key] = bool(corners(region(book.rules[axis], book.last, tick, cuts)))
        return known[key]

    for wrong in itertools.combinations(names, min(book.wrong, len(names))):
        kept = [reading for reading in book.readings if reading[0] not in wrong]
        for ticks in itertools.product(*[range(reading[2], reading[3] + 1) for reading in kept]):
            cuts = [[(at,) + reading[4:] for at, reading in zip(ticks, kept) if reading[1] == axis]
                    for axis in range(len(book.rules))]
            if all(can(axis, cuts[axis]) for axis in range(len(book.rules))):
                return True
    return False


def is_a_sum(book, tick, state, axis, value):
    """Whether value is a SUM of the axis, as section 10 tells it."""
    if type(axis) is not int or not 0 <= axis < len(book.rules):
        return False
    try:
        terms, number = summed(book, tick, state, axis, value)
    except BadSum:
        return False
    return terms == () and number[0] < 0


def is_a_tree(book, tick, state, right, value, named=(), chosen=()):
    """Whether value is a TREE, word by word as section 10 tells it; chosen is a tuple of pairs (number, tick)."""
    ticks = dict(chosen)
    if type(value) is not tuple or not value or type(value[0]) is not str:
        return False
    if value[0] == "ticks":
        if len(value) != 3 or type(value[1]) is not int or not 0 <= value[1] < len(book.readings):
            return False
        first, last = book.readings[value[1]][2:4]
        if first == last or value[1] in ticks or type(value[2]) is not tuple or len(value[2]) != last - first + 1:
            return False
        return all(is_a_tree(book, tick, state, right, tree, named, chosen + ((value[1], first + at),))
                   for at, tree in enumerate(value[2]))
    if value[0] != "sum" or len(value) != 4 or not is_a_sum(book, tick, state, value[1], value[2]):
        return False
    names = set()
    for row, weight in value[2]:
        if row[0] == "reading":
            source, axis, first, last = book.readings[row[1]][:4]
            if source in named or row[2] != (first if first == last else ticks.get(row[1])):
                return False
            names.add(source)
    suspects = sorted(names - set(right)) if len(named) < book.wrong else []
    if type(value[3]) is not tuple or len(value[3]) != len(suspects):
        return False
    return all(type(branch) is tuple and len(branch) == 2 and type(branch[0]) is str and branch[0] == name
               and is_a_tree(book, tick, state, right, branch[1], named + (name,), chosen)
               for name, branch in zip(suspects, value[3]))


def kinds(tree):
    """The words of a TREE, from above."""
    found = [tree[0]]
    for part in [branch[1] for branch in tree[3]] if tree[0] == "sum" else tree[2]:
        found += kinds(part)
    return found


def put(value, at, other):
    """A copy of a tuple with another item."""
    return value[:at] + (other,) + value[at + 1:]


def near_sums(R, book, tick, state, value):
    """Values near to a SUM."""
    at = R.randrange(len(value))
    row, (top, bottom) = value[at]
    whole = rows(book, tick, state, R.randrange(len(book.rules)))
    for weight in ((top + 1, bottom), (2 * top, 2 * bottom), (-top, bottom), (0, 1), top, (top, bottom + 1), [top,
        bottom]):
        yield put(value, at, (row, weight))
    yield tuple([(one, (3 * many[0], many[1])) for one, many in value])
    yield tuple([(one, (many[0], 7 * many[1])) for one, many in value])
    yield value[:at] + value[at + 1:]
    yield value + value[-1:]
    yield value[::-1]
    yield list(value)
    yield put(value, at, (R.choice(whole)[0], (top, bottom)))
    yield tuple(sorted(value + ((R.choice(whole)[0], (1, 1)),)))
    # Both sides of one bound, added, come to a number that is left: this may be a SUM, too.
    words = row[:-1]
    yield tuple(sorted([pair for pair in value if pair[0][:-1] != words] + [(words + ("high",), (1, 9)),
        (words + ("low",), (1, 9))]))


def near_trees(R, book, tick, state, tree):
    """Values near to a TREE."""
    yield put(tree, 0, "Sum")
    yield put(tree, 0, "ticks" if tree[0] == "sum" else "sum")
    yield tree + ((),)
    yield tree[:-1]
    yield list(tree)
    yield (tree,)
    if tree[0] == "ticks":
        for number in list(range(-1, len(book.readings) + 1)) + [None, True, (tree[1],)]:
            yield put(tree, 1, number)
        for trees in (tree[2][1:], tree[2] + tree[2][:1], tree[2][::-1], list(tree[2]), (), None):
            yield put(tree, 2, trees)
        at = R.randrange(len(tree[2]))
        yield ("ticks", tree[1], put(tree[2], at, tree))
        yield tree[2][at]
        for near in near_trees(R, book, tick, state, tree[2][at]):
            yield put(tree, 2, put(tree[2], at, near))
        return
    for axis in (0, 1, -1, 3, True, False, None):
        yield put(tree, 1, axis)
    for near in near_sums(R, book, tick, state, tree[2]):
        yield put(tree, 2, near)
    branches = tree[3]
    for other in (branches[1:], branches + branches[:1], branches[::-1], list(branches), None, dict(branches),
                  branches + (("zz", tree),), (("a", tree),) + branches, (("a", tree),), (("a", ("sum", 0, (), ())),)):
        yield put(tree, 3, other)
    if branches:
        at = R.randrange(len(branches))
        name, part = branches[at]
        for other in ((name + "x", part), (part, name), (name, part, ()), [name, part], (name,), (name, tree), (name,
            None), None):
            yield put(tree, 3, put(branches, at, other))
        yield part
        for near in near_trees(R, book, tick, state, part):
            yield put(tree, 3, put(branches, at, (name, near)))


class Trees(Refusals):
    def states(self, R, book, tick):
        """States of all kinds, and None."""
        found = [None, drawn_state(R, book)]
        for _, _, shapes in fits(book, tick)[:2]:
            found.append(tuple([shape[-1] for shape in shapes]))
            found.append(tuple([point(pair(shape[0])[0] - Fraction(1, 10 ** 7),
                                      pair(shape[0])[1]) for shape in shapes]))
        for rule in book.rules[:1]:
            found.append(points(*[(one[0], one[3]) for one in book.rules]))
        return found

    def rights(self, book):
        names = book.sources
        return [(), names] + [(name,) for name in names[:2]] + [names[1:], names[:2]][:len(names)]

    def test_just_where_no_world_has_the_state(self):
        found = []
        for R, book in books(111, 56):
            tick = R.randint(0, book.last)
            for state in self.states(R, book, tick):
                for right in self.rights(book):
                    tree = refuted(book, tick, state, right)
                    self.assertIs(tree is None, some_motion(book, tick, state, right), (book.text, tick, state, right))
                    self.assertIs(shows_refuted(book, tick, state, right, None), tree is None)
                    if tree is not None:
                        self.assertTrue(is_a_tree(book, tick, state, right, tree), (book.text, tick, state, right,
                            tree))
                        self.assertIs(shows_refuted(book, tick, state, right, tree), True)
                        self.assertEqual(tree, refuted(book, tick, state, right))
                    found.append(tree is None)
        self.assertGreater(found.count(True), 100)
        self.assertGreater(found.count(False), 200)

    def test_never_both(self):
        for R, book in books(112, 150):
            self.assertIs(any_world(book) is None, refuted(book, 0, None, ()) is not None)
            tick = R.randint(0, book.last)
            for state in self.states(R, book, tick)[1:]:
                tree = refuted(book, tick, state, ())
                self.assertIs(world_with(book, tick, state) is None, tree is not None)
                self.assertIs(has(book, tick, state), tree is None)

    def test_several_wrong_and_unsure_ones(self):
        found = []
        R = random.Random(113)
        for turn in range(320):
            last, axes, wrong = R.choice((1, 2, 3)), 1 + turn % 2, turn % 4
            book = small_book(R, last, axes, R.randint(5, 10), wrong, "abcdef"[:3 + turn % 4])
            names = R.sample(book.sources, R.randint(0, len(book.sources)))
            right = R.choice(((), tuple(sorted(names))))
            tree = refuted(book, 0, None, right)
            if tree is not None:
                self.assertTrue(is_a_tree(book, 0, None, right, tree), (book.text, right, tree))
                self.assertIs(shows_refuted(book, 0, None, right, tree), True)
                found += kinds(tree)
        self.assertGreater(found.count("ticks"), 20)
        self.assertGreater(found.count("sum"), 150)

    def test_long_ones(self):
        R = random.Random(114)
        found = []
        for turn in range(16):
            book, motion = true_book(R, 12, 1 + turn % 3, 22, turn % 4, "abcdef", turn % 2)
            tick = R.randint(0, 12)
            for more in (0, 1, Fraction(1, 7)):
                place, speed = pair(motion[tick][0])
                state = (point(place + more, speed),) + motion[tick][1:]
                tree = refuted(book, tick, state, ())
                self.assertIs(world_with(book, tick, state) is None, tree is not None)
                if tree is not None:
                    self.assertTrue(is_a_tree(book, tick, state, (), tree))
                self.assertIs(shows_refuted(book, tick, state, (), tree), True)
                found.append(tree is None)
            self.assertIsNone(refuted(book, tick, motion[tick], tuple(
                [name for name in book.sources if name not in wrong_in(book.readings, motion)])))
        self.assertGreater(found.count(False), 8)
        self.assertGreater(found.count(True), 16)

    def test_rim_and_just_beyond(self):
        book = Book((RULE,), 2, (("a", 0, 1, 1, 1, 0, 3, 5), ("b", 0, 2, 2, 0, 1, 1, None)), 0)
        tiny = 10 ** 9
        for place, speed, told in (
                ((3, 1), (0, 1), None), ((3, 1), (-1, tiny), "sum"), ((5, 1), (2, 1), None),
                ((5, 1), (2 * tiny + 1, tiny), "sum"), ((5 * tiny + 1, tiny), (1, 1), "sum"),
                ((3 * tiny - 1, tiny), (1, 1), "sum"), ((4, 1), (1, 3), None), ((4, 1), (-1, 9), "sum")):
            tree = refuted(book, 1, ((place, speed),), ())
            self.assertEqual(tree and tree[0], told)
            if tree is not None:
                self.assertTrue(is_a_tree(book, 1, ((place, speed),), (), tree))

    def test_no_readings(self):
        book = Book(((5, 6, 7, 8, 0, 0), RULE), 1, (), 3)
        tree = refuted(book, 0, None, ())
        self.assertTrue(is_a_tree(book, 0, None, (), tree))
        self.assertEqual(tree[3], ())
        self.assertIsNone(refuted(Book((RULE,), 12, (), 0), 12, None, ()))
        tree = refuted(Book((RULE,), 12, (), 0), 12, points((11, 0)), ())
        self.assertTrue(is_a_tree(Book((RULE,), 12, (), 0), 12, points((11, 0)), (), tree))

    def test_last_0_and_12(self):
        for last in (0, 12):
            for wrong in range(4):
                readings = tuple([exact(name, last * (at % 2), 0, 3 * at, 3 * at) for at, name in enumerate("abcd")])
                book = Book(((0, 10, 0, 0, 0, 0),), last, readings, wrong)
                tree = refuted(book, last, None, ())
                self.assertIs(tree is None, wrong == 3)
                for right in (("a",), ("a", "d"), ("a", "b", "c", "d")):
                    self.assertIs(refuted(book, last, None, right) is None, wrong == 3 and len(right) == 1)
                if tree is not None:
                    self.assertTrue(is_a_tree(book, last, None, (), tree))
                    self.assertEqual(len([word for word in kinds(tree) if word == "sum"]) > wrong, True)

    def test_a_named_source_with_several_readings(self):
        readings = (exact("a", 0, 0, 0, 0), exact("a", 1, 1, 9, 9), unsure("a", 0, 3, 1, 5, 6), exact("b", 0, 0, 1, 1),
                    exact("b", 2, 1, 8, 8), exact("c", 1, 0, 5, 5), unsure("c", 0, 2, 1, 1, 1), unsure("d", 1, 3, 0, 7,
                        7))
        still = (0, 10, 0, 0, 0, 0)
        for wrong in range(4):
            book = Book((still, still), 3, readings, wrong)
            for many in range(5):
                for right in itertools.combinations("abcd", many):
                    tree = refuted(book, 1, None, right)
                    self.assertIs(tree is None, some_motion(book, 1, None, right))
                    if tree is not None:
                        self.assertTrue(is_a_tree(book, 1, None, right, tree))

    def test_a_source_against_itself(self):
        readings = (exact("a", 0, 0, 0, 0), exact("a", 0, 0, 1, 1))
        for wrong in range(4):
            book = Book((RULE,), 0, readings, wrong)
            self.assertIs(refuted(book, 0, None, ()) is None, wrong > 0)
            tree = refuted(book, 0, None, ("a",))
            self.assertEqual((tree[0], tree[1], tree[3]), ("sum", 0, ()))
            self.assertTrue(is_a_tree(book, 0, None, ("a",), tree))

    def test_great_numbers(self):
        great = 3 ** 700
        book = Book((RULE,), 3, (("a", 0, 2, 2, 1, 0, 3, 5), ("b", 0, 3, 3, 1, 0, None, 4)), 1)
        for state in ((((5 * great + 1, great), (1, great)),), (((9 * great + 1, great), (2, 1)),)):
            for right in ((), ("a",), ("a", "b")):
                tree = refuted(book, 2, state, right)
                self.assertIs(shows_refuted(book, 2, state, right, tree), True)
                self.assertIs(shows_refuted(book, 2, state, right, None), tree is None)
                if tree is not None:
                    self.assertTrue(is_a_tree(book, 2, state, right, tree))

    def test_ticks_come_where_no_sum_does(self):
        book = read_book("rule 0 9 -1 2 -1 1\nlast 2\nwrong 0\nread ear 0 0 1 0 0..0\nread eye 0 1..2 1 0 6..")
        tree = refuted(book, 0, None, ())
        self.assertEqual([tree[0], tree[1], [part[0] for part in tree[2]]], ["ticks", 1, ["sum", "sum"]])


class Shows(Refusals):
    def test_near_trees(self):
        found = []
        R = random.Random(121)
        for turn in range(120):
            last, axes, wrong = R.choice((0, 1, 2, 3)), 1 + turn % 2, turn % 4
            book = small_book(R, last, axes, R.randint(2, 9), wrong, "abcd"[:2 + turn % 3])
            tick = R.randint(0, last)
            state = R.choice((None, drawn_state(R, book)))
            right = R.choice(((), (), book.sources[:1], book.sources))
            tree = refuted(book, tick, state, right)
            if tree is None:
                continue
            for near in near_trees(R, book, tick, state, tree):
                told = shows_refuted(book, tick, state, right, near)
                self.assertIs(told, is_a_tree(book, tick, state, right, near), (book.text, tick, state, right, near))
                found.append(told)
        self.assertGreater(found.count(True), 100)
        self.assertGreater(found.count(False), 2000)

    def test_trees_for_other_questions(self):
        found = []
        for R, book in books(122, 150):
            tick = R.randint(0, book.last)
            questions = [(tick, state, right) for state in (None, drawn_state(R, book), drawn_state(R, book))
                         for right in ((), book.sources, book.sources[:1])]
            trees = [refuted(book, *question) for question in questions]
            for question in questions:
                for tree in trees:
                    if tree is not None:
                        told = shows_refuted(book, *question, tree)
                        self.assertIs(told, is_a_tree(book, *question, tree))
                        found.append(told)
        self.assertGreater(found.count(True), 300)
        self.assertGreater(found.count(False), 100)

    def test_other_values(self):
        book = read_book("rule 0 9 -1 2 -1 1\nlast 2\nwrong 0\nread ear 0 0 1 0 0..0\nread eye 0 2 1 0 6..")
        tree = refuted(book, 0, None, ())
        empty = Book((RULE,), 2, (), 0)
        for value in OTHERS + (0, 1, (), ("sum",), ("ticks",), "sum", ("sum", 0), ("sum", 0, (), ()), ("sum", 0, ()),
                               SOME, book,
                               ("ticks", 0, ()), ("ticks", 0, (tree,)), ("ticks", 1, (tree, tree)), ("ticks", 2, ()),
                               (book,),
                               nested(tuple), ("sum", 0, tree[2]), ("sum", 1, tree[2], ()), ("sum", 0, tree[2],
                                   (("ear", tree),)),
                               ("sum", True, tree[2], ()), ("sum", False, tree[2], ()), (book, 0, tree[2], ()), [tree]):
            if value is not None:
                self.assertIs(shows_refuted(book, 0, None, (), value), False)
                self.assertIs(shows_refuted(empty, 0, None, (), value), False)
        self.assertIs(shows_refuted(book, 0, None, (), tree), True)
        self.assertIs(shows_refuted(empty, 0, None, (), None), True)
        self.assertIs(shows_refuted(empty, 0, None, (), tree), False)

    def test_ticks_once_and_of_unsure_ones_alone(self):
        lines = "rule 0 9 -1 2 -1 1\nlast 2\nwrong 0\nread ear 0 0 1 0 0..0\nread eye 0 1..2 1 0 6.."
        book = read_book(lines)
        word, number, (early, late) = refuted(book, 0, None, ())
        for value, told in (
                (("ticks", 1, (early, late)), True), (("ticks", 1, (late, early)), False), (early, False), (late,
                    False),
                (("ticks", 1, (early,)), False), (("ticks", 1, (early, late, late)), False), (("ticks", 1, [early,
                    late]), False),
                (("ticks", 0, (early,)), False), (("ticks", 0, (early, late)), False), (("ticks", True, (early, late)),
                    False),
                (("ticks", 1, (("ticks", 1, (early, late)), late)), False), (("ticks", -1, (early, late)), False),
                (("ticks", 1, (("ticks", 0, (early,)), late)), False), (("ticks", 1, (early, late), ()), False)):
            self.assertIs(shows_refuted(book, 0, None, (), value), told, value)
        other = read_book(lines + "\nread sun 0 0..1 1 0 0..9")
        tree = ("ticks", 1, (early, late))
        self.assertIs(shows_refuted(other, 0, None, (), tree), True)
        self.assertIs(shows_refuted(other, 0, None, (), ("ticks", 2, (tree, tree))), True)
        self.assertIs(shows_refuted(other, 0, None, (), ("ticks", 2, (tree, early))), False)
        self.assertIs(shows_refuted(other, 0, None, (), ("ticks", 2, (tree, ("ticks", 2, (tree, tree))))), False)

    def test_by_name(self):
        self.assertIsNone(refuted(right=(), state=None, tick=0, book=ONE))
        self.assertIs(shows_refuted(value=None, right=(), state=None, tick=0, book=ONE), True)


class Wrong(Refusals):
    def look(self, kind, wrong, book, tick, state, right):
        self.refused(kind, wrong, refuted, book, tick, state, right)
        self.refused(kind, wrong, shows_refuted, book, tick, state, right, None)
        self.refused(kind, wrong, shows_refuted, book, tick, state, right, ("sum", 0, (), ()))

    def test_sequence(self):
        for wrong in NOT_BOOKS:
            self.look(NoBook, wrong, wrong, 0, None, ())
            self.look(NoBook, wrong, wrong, "x", "x", "x")
        for wrong in NOT_INTEGERS + (-1, 4, 13, 10 ** 30):
            self.look(BadTick, wrong, ONE, wrong, None, ())
            self.look(BadTick, wrong, ONE, wrong, "x", "x")
        for wrong in NOT_STATES_OF_ONE:
            if wrong is not None:
                self.look(BadState, wrong, ONE, 3, wrong, ())
                self.look(BadState, wrong, ONE, 3, wrong, "x")
        wrong = points((1, 1))
        self.look(BadState, wrong, Book((RULE, FLAT), 3, (), 0), 3, wrong, ())

    def test_sources(self):
        for wrong in OTHERS + (0, 1, "ear", ["ear"], ("eye", "ear"), ("ear", "ear"), ("ear", "eye", "sun"), ("sun",),
                               ("Ear",),
                               ("ear", None), (None,), (True,), (("ear",),), ("ear", ["eye"]), {"ear": True}, (0,),
                               (ONE,), ONE,
                               ("",), ("ear", "eye", "eye"), (1, "ear")):
            self.look(BadSources, wrong, ONE, 3, None, wrong)
            self.look(BadSources, wrong, ONE, 0, points((1, 1)), wrong)
        for right in ((), ("ear",), ("eye",), ("ear", "eye")):
            self.assertIs(shows_refuted(ONE, 0, None, right, refuted(ONE, 0, None, right)), True)
        book = Book((RULE,), 0, SIX, 3)
        for many in range(7):
            for right in itertools.permutations("abcdef", many):
                if right == tuple(sorted(right)):
                    self.assertIsNone(refuted(book, 0, None, right))
                elif many < 4:
                    self.look(BadSources, right, book, 0, None, right)


if __name__ == "__main__":
    unittest.main()
