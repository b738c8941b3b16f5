"""Integers, letters and ratios."""

from math import gcd

from grownquorums.errors import InvalidNumber, InvalidOperation

MAX_FIGURES = 400

# The least integer with more than MAX_FIGURES figures. It is compared with, as
# Python refuses to write out integers of several thousand figures.
_OUT_OF_REACH = (10 ** 50) ** 8


def is_integer(value):
    """Whether the value is an integer of at most 400 digits."""
    if not isinstance(value, int) or isinstance(value, bool):
        return False
    return -_OUT_OF_REACH < value < _OUT_OF_REACH


def is_count(value):
    """Whether the value is such an integer of at least 0."""
    return is_integer(value) and value >= 0


def is_letter(value):
    """Whether the value is a letter from a to z."""
    return isinstance(value, str) and len(value) == 1 and "a" <= value <= "z"


def is_ratio(value):
    """Whether the value is a pair (top, bottom) in lowest terms, the bottom at least 1."""
    if not isinstance(value, tuple) or len(value) != 2:
        return False
    top, bottom = value
    if not is_integer(top) or not is_integer(bottom):
        return False
    return bottom >= 1 and gcd(top, bottom) == 1


def lowest(top, bottom):
    """The ratio of two integers of any signs."""
    if not is_integer(top):
        raise InvalidNumber(top)
    if not is_integer(bottom) or bottom == 0:
        raise InvalidNumber(bottom)
    shared = gcd(top, bottom)
    if bottom < 0:
        shared = -shared
    return (top // shared, bottom // shared)


def is_less(one, other):
    """Whether the first ratio is less than the other one."""
    for value in (one, other):
        if not is_ratio(value):
            raise InvalidOperation("no ratio in lowest terms")
    return one[0] * other[1] < other[0] * one[1]
