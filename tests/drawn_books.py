"""Small drawn BOOKS, for the tests that compare with a model."""

import random

from allcoursesfit.books import Book
from tests.courses import drawn_motion
from tests.model import pair

WEIGHTS = ((1, 0), (0, 1), (1, 1), (2, -1), (-3, 2), (-1, 0))


def drawn_rule(R):
    """A RULE, mostly with the speed 0 and the push 0, sometimes without, or with a pair that is alike."""
    if R.random() < 0.7:
        return (R.randint(-3, 0), R.randint(1, 5), R.randint(-2, 0), R.randint(0, 3), R.randint(-2, 0), R.randint(0, 1))
    rule = ()
    for low, high, wide in ((-3, 3, 6), (-2, 2, 3), (-1, 1, 2)):
        least = R.randint(low, high)
        rule = rule + (least, least + R.choice((0, 0, 1, wide)))
    return rule


def drawn_ticks(R, last, may_be_unsure):
    first = R.randint(0, last)
    if may_be_unsure and R.random() < 0.4:
        return first, R.randint(first, min(last, first + 3))
    return first, first


def small_book(R, last, axes, many, wrong, names="abcd"):
    """A BOOK of READINGS that tell anything."""
    readings = []
    for _ in range(many):
        unsure = [reading for reading in readings if reading[2] != reading[3]]
        first, end = drawn_ticks(R, last, len(unsure) < 3)
        low = R.randint(-4, 4)
        bounds = R.choice(((low, None), (None, low), (low, low), (low, low + R.randint(1, 3))))
        readings.append((R.choice(names), R.randrange(axes), first, end) + R.choice(WEIGHTS) + bounds)
    return Book(tuple([drawn_rule(R) for _ in range(axes)]), last, tuple(readings), wrong)


def true_reading(R, motion, name, axis, ticks, loose):
    """A READING that tells what is so at one of its ticks."""
    p, q = R.choice(WEIGHTS)
    place, speed = pair(motion[R.randint(*ticks)][axis])
    told = p * place + q * speed
    low, high = told.__floor__() - R.randint(0, loose), told.__ceil__() + R.randint(0, loose)
    return (name, axis) + ticks + (p, q) + R.choice(((low, high), (low, None), (None, high)))


def true_book(R, last, axes, many, wrong, names="abcd", loose=2):
    """A BOOK, and a MOTION that fulfils all READINGS of all but so many of its sources."""
    rules = tuple([(-20, 20, -3, 3, -1, 1), (0, 9, -2, 3, -2, 0), (-3, 8, -1, 2, 0, 1)][:axes])
    motion = drawn_motion(R, rules, last, 2)
    liars = R.sample(names, wrong)
    readings = []
    for _ in range(many):
        unsure = [reading for reading in readings if reading[2] != reading[3]]
        ticks = drawn_ticks(R, last, len(unsure) < 3)
        name, axis = R.choice(names), R.randrange(axes)
        reading = true_reading(R, motion, name, axis, ticks, loose)
        if name in liars:
            low = R.randint(-9, 9)
            reading = reading[:6] + (low, low + R.randint(0, 2))
        readings.append(reading)
    return Book(rules, last, tuple(readings), wrong), motion


def books(seed, many):
    """Drawn BOOKS of all kinds that a test can go through."""
    R = random.Random(seed)
    for turn in range(many):
        yield R, small_book(R, turn % 4, 1 + turn % 2, R.randint(0, 5), turn // 2 % 4)
