"""Books that the tests use, a plain look at which seats hold what, and wrong values of each kind."""

import functools
import itertools
import random

from grownquorums.books.books import Book
from grownquorums.books.rules import Rule
from grownquorums.errors import InvalidBook, InvalidNumber, UnknownName
from grownquorums.seats.camps import Camp
from tests import plain

MAJ = Book.from_lines("width 3", "kind a of a a a least 01 02 12")
TREE = Book.from_lines("width 3", "kind s of s s s least 0", "kind t of s t t least 01 02 12")
FREE = Book.from_lines(
    "width 3", "kind g of r g g least 01 02 12", "kind r of r r r least 0 1 2", "kind w of w w w least 012")
ROWS = Book.from_lines("width 2", "kind o of o u least 0 1", "kind u of u u least 01")
ODD = Book.from_lines("width 4", "kind b of b b b b least 01 23")

EDGE = Camp.from_lines("width 3", "first p", "state p in of p p q", "state q out of q q q")
FLIP = Camp.from_lines("width 3", "first p", "state p in of q q q", "state q out of p p p")

LETTERS = "abcdefghijklmnopqrstuvwxyz"


@functools.lru_cache(maxsize=None)
def families(width):
    return plain.families(width)


def random_family(width, chosen):
    """A family of sets of about equal sizes; among all families most have many sets."""
    if width <= 3 or chosen.random() < 0.3:
        return chosen.choice(families(width))
    many = chosen.randrange(1, 6)
    sets = [one for one in plain.all_sets(width) if len(one) in (many // 2, many // 2 + 1, 2)]
    table = plain.table_of(width, chosen.sample(sets, min(len(sets), chosen.randrange(1, 6))))
    return plain.family_of(width, table)


def random_rule(width, kinds, chosen):
    return Rule(tuple(chosen.choices(kinds, k=width)), random_family(width, chosen))


def random_book(width, many, seed):
    chosen = random.Random(repr((width, many, seed)))
    kinds = chosen.sample(LETTERS, many)
    return Book(width, {kind: random_rule(width, kinds, chosen) for kind in kinds})


def books(widths=plain.WIDTHS, sizes=(1, 2, 3, 6), seeds=2):
    """Books of all these widths and numbers of kinds."""
    return [random_book(width, many, seed) for width in widths for many in sizes for seed in range(seeds)]


def seats(width, order):
    """All seats of an order."""
    return list(itertools.product(range(width), repeat=order))


def holds(book, kind, order, some):
    """A plain look at point 0.10; the seats are a set of tuples."""
    if order == 0:
        return () in some
    rule = book.rules[kind]
    places = set()
    for place, below in enumerate(rule.row):
        part = {seat[1:] for seat in some if seat[0] == place}
        if holds(book, below, order - 1, part):
            places.add(place)
    return any(set(least) <= places for least in rule.family)


def crowds(width, order):
    """All crowds of an order, by their digits."""
    many = width ** order
    return [tuple(number for number in range(many) if bits >> number & 1) for bits in range(2 ** many)]


def seats_of(width, order, crowd):
    """The seats with these numbers."""
    every = seats(width, order)
    return {every[number] for number in crowd}


def table(book, kind, order):
    """For all crowds of an order, as digits, whether they hold a kind."""
    return [holds(book, kind, order, seats_of(book.width, order, crowd)) for crowd in crowds(book.width, order)]


def least_quorums(book, kind, order):
    """All least quorums in the order of point 6.1, by a plain list of all rows."""
    if order == 0:
        return [(0,)]
    size = book.width ** (order - 1)
    rule = book.rules[kind]
    lists = [least_quorums(book, below, order - 1) for below in rule.row]
    found = []
    for least in rule.family:
        for row in itertools.product(*[lists[place] for place in least]):
            found.append(tuple(place * size + number for place, part in zip(least, row) for number in part))
    return found


def random_camp(width, many, seed):
    """A camp with so many states, some of which may not be reached."""
    chosen = random.Random(repr((width, many, seed, "camp")))
    states = chosen.sample(LETTERS, many)
    entries = {state: (chosen.random() < 0.5, tuple(chosen.choices(states, k=width))) for state in states}
    return Camp(width, chosen.choice(states), entries)


def camps(widths=plain.WIDTHS, sizes=(1, 2, 3, 5, 26), seeds=2):
    """Camps of all these widths and numbers of states."""
    return [random_camp(width, many, seed) for width in widths for many in sizes for seed in range(seeds)]


def camp_seats(camp, order, state=None):
    """A plain look at point 0.17: all seats of an order, ascending."""
    is_in, row = camp.states[camp.first if state is None else state]
    if order == 0:
        return [()] if is_in else []
    return [(place, *seat) for place, other in enumerate(row) for seat in camp_seats(camp, order - 1, other)]


def groups(book, size):
    """All groups of so many kinds."""
    return list(itertools.combinations_with_replacement(book.kinds, size))


def shared(rows):
    """What all of the tuples have."""
    return sorted(set(rows[0]).intersection(*rows[1:]))


def below(book, group, place):
    """The group below at a place."""
    return tuple(sorted(book.rules[kind].row[place] for kind in group))


def choices(book, group):
    """All choices of a least set of each kind of a group, with the groups below at the places of all of them."""
    return list(known_choices(book.lines, group))


@functools.lru_cache(maxsize=None)
def known_choices(lines, group):
    book = Book.from_lines(*lines)
    found = []
    for sets in itertools.product(*[book.rules[kind].family for kind in group]):
        found.append((sets, [below(book, group, place) for place in shared(sets)]))
    return found


# Wrong values, for whoever passes MAJ, its kind a, and orders up to 2.
OBJECTS = (MAJ, TREE, FREE, MAJ["a"], EDGE, InvalidNumber(3), InvalidBook("no book"), UnknownName("a"))
NUMBERS = plain.FULL_INTEGERS + plain.LONG_INTEGERS + (True, False, -1, 0, 1, 3, 200, 201)
VALUES = plain.PLAIN_VALUES + NUMBERS + OBJECTS + ("a", "t", "at", "01", "01 02", (0,), ((0, 1),), ("a", "a"))

NO_BOOKS = tuple(value for value in VALUES if not isinstance(value, Book)) + (MAJ.lines, MAJ.rules, str(MAJ))
NO_KINDS = tuple(value for value in VALUES if value != "a") + ("b", "z", "A", "aa", ("a",), ["a"])
NO_ORDERS = plain.ODD_VALUES + plain.LONG_INTEGERS + plain.FULL_INTEGERS + (
    True, False, -1, -200, 201, 202, 1000, 10 ** 30, "0", "1", (0,), [0], (), {0: 0}, "a", MAJ)
