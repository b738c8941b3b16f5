"""What the tests compare the program with: plain looks at all sets of places, and wrong values.

A family is looked at here as its table: an integer whose bit number b tells whether the
places that are the bits of b contain a set of the family.
"""

from grownquorums.errors import InvalidBook, InvalidNumber

WIDTHS = (2, 3, 4, 5)


def nested(deep):
    """A tuple, a list or a dict around None, so many deep."""
    value = None
    for level in range(deep):
        value = ((value,), [value], {"a": value})[level % 3]
    return value


# Values that are no integers, no letters, no places, no sets, no families and no texts of families.
PLAIN_VALUES = (
    None, "", " ", "A", "aa", "a b", "x" * 8000, "\n", "~", [], [1], [[0]], [(0,)], ["a"], {}, {0: 1},
    {(0,): (1,)}, {"a": [1]}, nested(1), nested(2), nested(3), nested(8), (None,), ((None,),), ("a", "b"),
    (("a",), (0,)), ([0],), ({},), ((0,), [1]),
)
ODD_VALUES = PLAIN_VALUES + (InvalidNumber(3), InvalidBook("no book"), (InvalidNumber(0),))

# Integers with 401 figures and far more are no integers for the program.
LONG_INTEGERS = (10 ** 400, -(10 ** 400), 10 ** 449, 7 ** 9000, -(7 ** 9000))
FULL_INTEGERS = (10 ** 399, -(10 ** 399), 10 ** 400 - 1, 1 - 10 ** 400)

WRONG_WIDTHS = ODD_VALUES + LONG_INTEGERS + FULL_INTEGERS + (
    True, False, -5, -1, 0, 1, 6, 7, "3", "a", (), (3,), ((0,),), [3], {3: 3},
)


def places_of(width, bits):
    """The ascending tuple of the places that are bits."""
    return tuple(place for place in range(width) if bits & (1 << place))


def all_places(width):
    """All ascending tuples of places, the empty one first."""
    return [places_of(width, bits) for bits in range(2 ** width)]


def all_sets(width):
    return all_places(width)[1:]


def table_of(width, sets):
    """The table of the places that contain one of the sets."""
    table = 0
    for bits, places in enumerate(all_places(width)):
        if any(set(one) <= set(places) for one in sets):
            table |= 1 << bits
    return table


def family_of(width, table):
    """The family with a table."""
    held = [places for bits, places in enumerate(all_places(width)) if table >> bits & 1]
    return tuple(sorted(one for one in held if not any(set(other) < set(one) for other in held)))


def tables(width):
    """The tables of all families of a width."""
    grown = [0, 1]
    for place in range(width):
        # Where a place is added, all that was held is still held.
        grown = [high << 2 ** place | low for high in grown for low in grown if low & ~high == 0]
    nothing, everything = 0, 2 ** 2 ** width - 1
    return sorted(table for table in grown if table not in (nothing, everything))


def families(width):
    """All families of a width."""
    return [family_of(width, table) for table in tables(width)]


def dual_table(width, table):
    """What is held in the dual family: the places whose rest does not hold."""
    all_bits = 2 ** width - 1
    held = [bits for bits in range(2 ** width) if not table >> (all_bits - bits) & 1]
    return sum(1 << bits for bits in held)


def text_of(family):
    """The text of a family."""
    return " ".join("".join(str(place) for place in places) for places in family)
