"""Loads: the share of all picks of quorums that falls on the busiest seat, if they are picked with care.

Instead of the load its inverse is looked at, the room of a kind: how many quorums can be picked, in parts,
if each seat is used once. The room of a kind at an order is the greatest sum of parts of least sets that
its places let by the rooms of their kinds at the order below.
"""

from math import gcd, lcm

from grownquorums.base.words import is_ratio
from grownquorums.errors import InvalidNumber, InvalidOperation, TooMany
from grownquorums.measure.tableaus import amount, amounts, best_tableau
from grownquorums.seats.systems import check_asked

MAX_FIGURES = 400

# The least integer with more than MAX_FIGURES figures.
_OUT_OF_REACH = (10 ** 50) ** 8


def _reduced(top, bottom):
    shared = gcd(top, bottom)
    return (top // shared, bottom // shared)


def _row_rooms(rule, rooms):
    """The rooms of the kinds of all places."""
    return [rooms[kind] for kind in rule.row]


def _known_tableau(known, bounds):
    """One of the known tableaus that is best by these bounds as well, None if there is none."""
    for tableau in known:
        if min(amounts(tableau, bounds)) >= 0:
            return tableau
    return None


def _check_figures(rooms, bottom):
    """Refuse loads, by rooms over one bottom, that have an integer with too many figures."""
    for room in rooms.values():
        # No load is above 1, so the integer that comes of the room is the greater one.
        if room >= _OUT_OF_REACH and room // gcd(room, bottom) >= _OUT_OF_REACH:
            raise TooMany(MAX_FIGURES)


def _rooms_above(book, rooms, known):
    """The rooms one order above these, and what their bottom is multiplied with."""
    found = {}
    for kind in book.kinds:
        rule = book[kind]
        bounds = _row_rooms(rule, rooms)
        tableau = _known_tableau(known[kind], bounds)
        if tableau is None:
            tableau = best_tableau(rule.width, rule.family, bounds)
            known[kind].append(tableau)
        found[kind] = (amount(tableau[2][-1], bounds), tableau[0])
    factor = 1
    for _, bottom in found.values():
        factor = lcm(factor, bottom)
    return ({kind: top * (factor // bottom) for kind, (top, bottom) in found.items()}, factor)


def _rooms_upto(book, order):
    """For each order up to this one, the rooms of all kinds over one bottom, and the bottom."""
    known = {kind: [] for kind in book.kinds}
    rooms = {kind: 1 for kind in book.kinds}
    whole = 1
    found = [(rooms, whole)]
    for _ in range(order):
        rooms, factor = _rooms_above(book, rooms, known)
        whole = whole * factor
        _check_figures(rooms, whole)
        found.append((rooms, whole))
    return found


def load(book, kind, order):
    """The load of a kind at an order."""
    check_asked(book, kind, order)
    rooms, whole = _rooms_upto(book, order)[order]
    return _reduced(whole, rooms[kind])


def _check_above(book, kind, order):
    """Refuse what check_asked refuses, and the order 0."""
    check_asked(book, kind, order)
    if order == 0:
        raise InvalidNumber(order)


def _place_loads(book, kind, order):
    """The loads of the kinds of all places at the order below, as tops over one bottom, and the bottom."""
    rooms, whole = _rooms_upto(book, order)[order - 1]
    bounds = _row_rooms(book[kind], rooms)
    bottom = 1
    for room in bounds:
        bottom = lcm(bottom, room)
    return ([bottom // room * whole for room in bounds], bottom)


def _over_one_bottom(ratios):
    """The tops of ratios over one bottom, and the bottom."""
    bottom = 1
    for ratio in ratios:
        bottom = lcm(bottom, ratio[1])
    return ([ratio[0] * (bottom // ratio[1]) for ratio in ratios], bottom)


def _are_parts(many, value):
    """Whether the value is a tuple of so many ratios of at least 0 whose sum is 1."""
    if not isinstance(value, tuple) or len(value) != many:
        return False
    if not all([is_ratio(ratio) and ratio[0] >= 0 for ratio in value]):
        return False
    tops, bottom = _over_one_bottom(value)
    return sum(tops) == bottom


def _busyness(rule, loads, mixture):
    tops, bottom = _over_one_bottom(mixture)
    below, whole = loads
    uses = [
        below[place] * sum([top for least, top in zip(rule.family, tops) if place in least])
        for place in range(rule.width)
    ]
    return _reduced(max(uses), bottom * whole)


def _worth(rule, loads, weights):
    tops, bottom = _over_one_bottom(weights)
    below, whole = loads
    uses = [sum([tops[place] * below[place] for place in least]) for least in rule.family]
    return _reduced(min(uses), bottom * whole)


def busyness(book, kind, order, mixture):
    """The greatest busyness of a mixture at a place."""
    _check_above(book, kind, order)
    rule = book[kind]
    if not _are_parts(len(rule.family), mixture):
        raise InvalidOperation("no mixture for the kind")
    return _busyness(rule, _place_loads(book, kind, order), mixture)


def worth(book, kind, order, weights):
    """The worth of weights."""
    _check_above(book, kind, order)
    rule = book[kind]
    if not _are_parts(rule.width, weights):
        raise InvalidOperation("no weights for the kind")
    return _worth(rule, _place_loads(book, kind, order), weights)


def load_paper(book, kind, order):
    """A mixture, and weights whose worth is its busyness."""
    _check_above(book, kind, order)
    rule = book[kind]
    rooms, _ = _rooms_upto(book, order)[order - 1]
    bounds = _row_rooms(rule, rooms)
    tableau = best_tableau(rule.width, rule.family, bounds)
    _, basis, rows = tableau
    whole = amount(rows[-1], bounds)
    picked = {column: many for column, many in zip(basis, amounts(tableau, bounds))}
    mixture = tuple([_reduced(picked.get(column, 0), whole) for column in range(len(rule.family))])
    weights = tuple([
        _reduced(entry * bound, whole) for entry, bound in zip(rows[-1][-rule.width:], bounds)
    ])
    return (mixture, weights)


def is_load_paper(book, kind, order, value):
    """Whether the value is a pair of a mixture, and of weights whose worth is its busyness."""
    _check_above(book, kind, order)
    loads = _place_loads(book, kind, order)
    if not isinstance(value, tuple) or len(value) != 2:
        return False
    rule = book[kind]
    mixture, weights = value
    if not _are_parts(len(rule.family), mixture) or not _are_parts(rule.width, weights):
        return False
    return _busyness(rule, loads, mixture) == _worth(rule, loads, weights)
