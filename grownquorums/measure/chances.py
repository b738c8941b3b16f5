"""Chances that the seats that are up hold a kind, and where they go from order to order."""

from math import comb, gcd

from grownquorums.base.powers import power
from grownquorums.base.words import is_count, is_less, is_ratio
from grownquorums.books.books import check_book, check_kind
from grownquorums.books.tables import held_table
from grownquorums.errors import InvalidNumber, InvalidOperation
from grownquorums.seats.seats import check_few_seats
from grownquorums.seats.systems import check_asked

MAX_SEATS = 4096
MAX_DIGITS = 40

# The least integer with more than the 20 digits that those of a chance can have.
_OUT_OF_REACH = 10 ** 20

_NEVER = (0, 1)
_ALWAYS = (1, 1)


def _check(book, kind):
    check_book(book)
    check_kind(book, kind)


def _check_chance(value):
    if not is_ratio(value) or not 0 <= value[0] <= value[1] < _OUT_OF_REACH:
        raise InvalidNumber(value)


def _kinds_below(book, kind, order):
    """For each order from this one down to 1, the kinds whose chances at it are asked for."""
    rows = []
    kinds = (kind,)
    for _ in range(order):
        rows.append(kinds)
        kinds = tuple(sorted(set([made for one in kinds for made in book[one].made_of])))
    return rows


def _chance_above(rule, chances):
    """The chance that the places that are up hold a rule, by chances of their kinds, all of them tops and wholes.

    Nothing is brought to lowest terms, as this takes longer for great numbers than all else.
    """
    sums = [1 if is_held else 0 for is_held in held_table(rule)]
    product = 1
    for place, kind in enumerate(rule.row):
        # The lowest place of what is left is taken out: it is down in the first of two, and up in the next.
        downs = sums[::2]
        if place in rule.used:
            top, whole = chances[kind]
            product = product * whole
            downs = [
                whole * down if down == up else (whole - top) * down + top * up for down, up in zip(downs, sums[1::2])
            ]
        sums = downs
    return (sums[0], product)


def chance(book, kind, order, up):
    """The chance that the seats that are up hold a kind."""
    check_asked(book, kind, order)
    _check_chance(up)
    check_few_seats(book.width, order)
    chances = {other: up for other in book.kinds}
    for kinds in _kinds_below(book, kind, order)[::-1]:
        chances = {other: _chance_above(book[other], chances) for other in kinds}
    top, whole = chances[kind]
    # The whole is a power of the bottom of the chance, so mostly a short look tells that they share nothing.
    shared = gcd(top, whole) if gcd(top, up[1]) > 1 else 1
    return (top // shared, whole // shared)


def _coefficients(rule):
    """The coefficients of the polynomial that tells the chance of the rule by an equal one of all places."""
    width = rule.width
    found = [0] * (width + 1)
    for bits, is_held in enumerate(held_table(rule)):
        many = len([place for place in range(width) if bits >> place & 1])
        for more in range(width - many + 1 if is_held else 0):
            sign = -1 if more & 1 else 1
            found[many + more] += sign * comb(width - many, more)
    return tuple(found)


def _step_of(rule, kind):
    """The coefficients of the step of a pure kind."""
    if rule.made_of != (kind,):
        raise InvalidOperation("the kind is not pure")
    return _coefficients(rule)


def step(book, kind):
    """The coefficients of the step of a pure kind."""
    _check(book, kind)
    return _step_of(book[kind], kind)


def _rise(coefficients, at):
    """A number that is above 0 if the step of a chance is above it, 0 if it is the same, and below 0 otherwise."""
    top, bottom = at
    found = 0
    scale = 1
    for degree in reversed(range(len(coefficients))):
        # The chance itself is taken from its step.
        found = found * top + (coefficients[degree] - (1 if degree == 1 else 0)) * scale
        scale = scale * bottom
    return found


def _sign(number):
    if number == 0:
        return 0
    return 1 if number > 0 else -1


def drift(book, kind, up):
    """Whether the chances of a kind rise, 1, fall, -1, or stay equal, 0."""
    _check(book, kind)
    _check_chance(up)
    return _sign(_rise(_step_of(book[kind], kind), up))


def limit(book, kind, up):
    """The limit of the chances of a kind."""
    turn = drift(book, kind, up)
    if turn == 0:
        return up
    return _ALWAYS if turn > 0 else _NEVER


def _is_all_fixed(coefficients):
    return coefficients == (0, 1) + (0,) * (len(coefficients) - 2)


def _is_falling_from_0(coefficients):
    """Whether the step of small chances is below them."""
    excess = [coefficients[1] - 1, *coefficients[2:]]
    return [number for number in excess if number != 0][0] < 0


def _has_threshold(rule):
    """Whether small chances fall and great ones rise; for a rule by which not all numbers are fixed."""
    # The great ones are the small ones of the dual rule, that the rule is not held.
    return _is_falling_from_0(_coefficients(rule)) and _is_falling_from_0(_coefficients(rule.dual()))


def fixed_between(book, kind, low, high):
    """How many numbers above one chance and below another are fixed, None if all are."""
    _check(book, kind)
    _check_chance(low)
    _check_chance(high)
    if not is_less(low, high):
        raise InvalidNumber(high)
    coefficients = _step_of(book[kind], kind)
    if _is_all_fixed(coefficients):
        return None
    if not _has_threshold(book[kind]):
        return 0
    is_above_low = low == _NEVER or _rise(coefficients, low) < 0
    is_below_high = high == _ALWAYS or _rise(coefficients, high) > 0
    return 1 if is_above_low and is_below_high else 0


def threshold_digits(book, kind, digits):
    """The greatest integer that is at most the threshold times a power of ten, None if there is no threshold."""
    _check(book, kind)
    if not is_count(digits) or digits > MAX_DIGITS:
        raise InvalidNumber(digits)
    coefficients = _step_of(book[kind], kind)
    if _is_all_fixed(coefficients) or not _has_threshold(book[kind]):
        return None
    scale = power(10, digits)
    low = 0
    high = scale
    while high - low > 1:
        middle = (low + high) // 2
        if _rise(coefficients, (middle, scale)) > 0:
            high = middle
        else:
            low = middle
    return low
