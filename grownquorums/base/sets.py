"""Sets of places, and families: ascending tuples of sets none of which contains another."""

from grownquorums.base.words import is_integer
from grownquorums.errors import InvalidNumber, InvalidOperation, InvalidSet, ParseError

_LEAST_WIDTH = 2
_GREATEST_WIDTH = 5
_FIGURES = "01234"


def check_width(width):
    """Refuse what is no width of a book."""
    if not is_integer(width) or not _LEAST_WIDTH <= width <= _GREATEST_WIDTH:
        raise InvalidNumber(width)


def check_places(width, places):
    """Refuse a wrong width, and what is no ascending tuple of places."""
    check_width(width)
    if not _are_places(width, places):
        raise InvalidSet("no ascending tuple of places")


def check_family(width, family):
    """Refuse a wrong width, and what is no family."""
    if not is_family(width, family):
        raise InvalidSet("no family of sets of places")


def _is_place(width, value):
    return is_integer(value) and 0 <= value < width


def ascends(row):
    """Whether each value of a row is less than the next one."""
    return all([low < high for low, high in zip(row, row[1:])])


def _are_places(width, value):
    """Whether the value is an ascending tuple of places, which can be empty."""
    if not isinstance(value, tuple):
        return False
    # Places are judged ahead of their order, as values of other kinds may have none.
    return all([_is_place(width, place) for place in value]) and ascends(value)


def _are_sets(width, value):
    """Whether the value is a tuple of at least one set, in any order, repeats let."""
    if not isinstance(value, tuple) or value == ():
        return False
    return all([_are_places(width, places) and places != () for places in value])


def are_turns(width, value):
    """Whether the value is a tuple with each place once."""
    if not isinstance(value, tuple) or len(value) != width:
        return False
    return all([_is_place(width, place) for place in value]) and ascends(sorted(value))


def is_set(width, value):
    """Whether the value is a set of places of this width."""
    check_width(width)
    return _are_places(width, value) and value != ()


def is_family(width, value):
    """Whether the value is a family of places of this width."""
    check_width(width)
    return _are_sets(width, value) and _least(value) == value


def contains(places, others):
    return all([place in places for place in others])


def _meet(places, others):
    return any([place in places for place in others])


def has_least(family, places):
    """Whether the places contain a set of the family; for values that are known to be such."""
    return any([contains(places, least) for least in family])


def _least(sets):
    """The family of those of the sets that contain no other one."""
    found = sorted(set(sets))
    return tuple([
        places for places in found
        if not any([contains(places, other) for other in found if other != places])
    ])


def _places_in(width, bits):
    return tuple([place for place in range(width) if bits >> place & 1])


def _all_sets(width):
    return [_places_in(width, bits) for bits in range(1, 1 << width)]


def least_of(width, sets):
    """The family of those of the sets that contain no other one."""
    check_width(width)
    if not _are_sets(width, sets):
        raise InvalidSet("no tuple of at least one set of places")
    return _least(sets)


def is_held(width, family, places):
    """Whether the places contain a set of the family."""
    check_family(width, family)
    check_places(width, places)
    return has_least(family, places)


def rest_of(width, places):
    """The places that are not among these."""
    check_places(width, places)
    return tuple([place for place in range(width) if place not in places])


def blocks_of(width, family):
    """The dual family: the least sets that meet all sets of the family."""
    check_family(width, family)
    return _least([
        places for places in _all_sets(width) if all([_meet(places, least) for least in family])
    ])


def either(width, one, other):
    """The family of the least sets that contain a set of the one or of the other family."""
    check_family(width, one)
    check_family(width, other)
    return _least(one + other)


def both(width, one, other):
    """The family of the least sets that contain a set of each of the two families."""
    check_family(width, one)
    check_family(width, other)
    return _least([
        places for places in _all_sets(width)
        if has_least(one, places) and has_least(other, places)
    ])


def placed(width, family, turns):
    """The family in which each place p has become turns[p]."""
    check_family(width, family)
    if not are_turns(width, turns):
        raise InvalidOperation("no tuple with each place once")
    return tuple(sorted([tuple(sorted([turns[place] for place in least])) for least in family]))


def completed(width, family):
    """A family that is its own dual, and has a set in each set of the given one."""
    check_family(width, family)
    if not all([_meet(one, other) for one in family for other in family]):
        raise InvalidOperation("two sets of the family do not meet")
    # Once no further set meets all of them, one of each set and its rest is among
    # them, and therefore they are their own dual.
    grown = list(family)
    for places in _all_sets(width):
        if all([_meet(places, least) for least in grown]):
            grown.append(places)
    return _least(grown)


def write_family(width, family):
    """The text of a family, like 01 02 12."""
    check_family(width, family)
    return " ".join(["".join([str(place) for place in least]) for least in family])


def family_in(width, text):
    """The family with a text, None if the value is the text of none."""
    check_width(width)
    if not isinstance(text, str):
        return None
    # A sign that is no figure becomes -1, which is no place.
    family = tuple([tuple([_FIGURES.find(sign) for sign in word]) for word in text.split(" ")])
    return family if is_family(width, family) else None


def read_family(width, text):
    """The family with a text."""
    family = family_in(width, text)
    if family is None:
        raise ParseError(None)
    return family
