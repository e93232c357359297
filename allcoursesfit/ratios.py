"""Integers and FRACTIONS: what they are, how they are reckoned with, and how they stand in texts.

A FRACTION is a tuple (top, bottom) in lowest terms, bottom from 1 on.
"""

from math import gcd

DIGITS = "0123456789"


def is_whole(value):
    """Whether any value is an integer; a bool is none."""
    return isinstance(value, int) and not isinstance(value, bool)


def is_fraction(value):
    """Whether any value is a FRACTION."""
    if not isinstance(value, tuple) or len(value) != 2:
        return False
    top, bottom = value
    if not is_whole(top) or not is_whole(bottom):
        return False
    return bottom > 0 and gcd(top, bottom) == 1


def reduced(top, bottom):
    """The FRACTION top / bottom, of integers, bottom not 0."""
    shared = gcd(top, bottom)
    if bottom < 0:
        shared = -shared
    return (top // shared, bottom // shared)


def plus(one, other):
    """The FRACTION that both FRACTIONS come to together."""
    return reduced(one[0] * other[1] + other[0] * one[1], one[1] * other[1])


def minus(one, other):
    """The FRACTION one less other."""
    return reduced(one[0] * other[1] - other[0] * one[1], one[1] * other[1])


def times(one, other):
    """The FRACTION one times other."""
    return reduced(one[0] * other[0], one[1] * other[1])


def quotient(one, other):
    """The FRACTION one by other, if other is not 0."""
    return reduced(one[0] * other[1], one[1] * other[0])


def is_below(one, other):
    """Whether the number one is less than the number other."""
    return one[0] * other[1] < other[0] * one[1]


def is_between(number, low, high):
    """Whether a FRACTION is the integer low or more, and high or less; None is no bound."""
    if low is not None and number[0] < low * number[1]:
        return False
    return high is None or number[0] <= high * number[1]


def whole_text(number):
    """The text of an integer, of any size.

    Python refuses to write integers of thousands of figures at once: so they are written in blocks of 64.
    """
    if number < 0:
        return "-" + whole_text(-number)
    blocks = []
    while number >= 10 ** 64:
        number, block = divmod(number, 10 ** 64)
        blocks.append(str(block).zfill(64))
    blocks.append(str(number))
    return "".join(blocks[::-1])


def read_digits(digits):
    """The integer with these digits, one or more; in blocks, as Python refuses to read thousands at once."""
    first = len(digits) % 64
    number = 0
    if first > 0:
        number = int(digits[:first])
    for at in range(first, len(digits), 64):
        number = number * 10 ** 64 + int(digits[at:at + 64])
    return number


def read_whole(text):
    """The integer that is written just so, None if none is."""
    digits = text
    if text.startswith("-"):
        digits = text[1:]
    if digits == "" or not all([digit in DIGITS for digit in digits]):
        return None
    if digits.startswith("0") and text != "0":
        return None
    if text.startswith("-"):
        return -read_digits(digits)
    return read_digits(digits)


def fraction_text(fraction):
    """The text of a FRACTION: its top, and its bottom unless that is 1."""
    top, bottom = fraction
    if bottom == 1:
        return whole_text(top)
    return whole_text(top) + "/" + whole_text(bottom)


def read_fraction(text):
    """The FRACTION that is written just so, None if none is."""
    above, slash, under = text.partition("/")
    top = read_whole(above)
    if top is None:
        return None
    if slash == "":
        return (top, 1)
    bottom = read_whole(under)
    if bottom is None or bottom < 2 or gcd(top, bottom) != 1:
        return None
    return (top, bottom)
