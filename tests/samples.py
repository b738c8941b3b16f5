"""Books that the tests use, a plain look at which seats hold what, and wrong values of each kind."""

import functools
import itertools
import random

from grownquorums.books.books import Book
from grownquorums.books.rules import Rule
from grownquorums.errors import InvalidBook, InvalidNumber, UnknownName
from tests import plain

MAJ = Book.from_lines("width 3", "kind a of a a a least 01 02 12")
TREE = Book.from_lines("width 3", "kind s of s s s least 0", "kind t of s t t least 01 02 12")
FREE = Book.from_lines(
    "width 3", "kind g of r g g least 01 02 12", "kind r of r r r least 0 1 2", "kind w of w w w least 012")
ROWS = Book.from_lines("width 2", "kind o of o u least 0 1", "kind u of u u least 01")
ODD = Book.from_lines("width 4", "kind b of b b b b least 01 23")

LETTERS = "abcdefghijklmnopqrstuvwxyz"


@functools.lru_cache(maxsize=None)
def families(width):
    return plain.families(width)


def random_family(width, chosen):
    """A family of sets of about equal sizes; among all families most have many sets."""
    if width <= 3 or chosen.random() < 0.3:
        return chosen.choice(families(width))
    many = chosen.randrange(1, 6)
    sets = [one for one in plain.all_sets(width) if len(one) in (many // 2, many // 2 + 1, 2)]
    table = plain.table_of(width, chosen.sample(sets, min(len(sets), chosen.randrange(1, 6))))
    return plain.family_of(width, table)


def random_rule(width, kinds, chosen):
    return Rule(tuple(chosen.choices(kinds, k=width)), random_family(width, chosen))


def random_book(width, many, seed):
    chosen = random.Random(repr((width, many, seed)))
    kinds = chosen.sample(LETTERS, many)
    return Book(width, {kind: random_rule(width, kinds, chosen) for kind in kinds})


def books(widths=plain.WIDTHS, sizes=(1, 2, 3, 6), seeds=2):
    """Books of all these widths and numbers of kinds."""
    return [random_book(width, many, seed) for width in widths for many in sizes for seed in range(seeds)]


def seats(width, order):
    """All seats of an order."""
    return list(itertools.product(range(width), repeat=order))


def holds(book, kind, order, some):
    """A plain look at point 0.10; the seats are a set of tuples."""
    if order == 0:
        return () in some
    rule = book.rules[kind]
    places = set()
    for place, below in enumerate(rule.row):
        part = {seat[1:] for seat in some if seat[0] == place}
        if holds(book, below, order - 1, part):
            places.add(place)
    return any(set(least) <= places for least in rule.family)


def crowds(width, order):
    """All crowds of an order, by their digits."""
    many = width ** order
    return [tuple(number for number in range(many) if bits >> number & 1) for bits in range(2 ** many)]


def seats_of(width, order, crowd):
    """The seats with these numbers."""
    every = seats(width, order)
    return {every[number] for number in crowd}


def table(book, kind, order):
    """For all crowds of an order, as digits, whether they hold a kind."""
    return [holds(book, kind, order, seats_of(book.width, order, crowd)) for crowd in crowds(book.width, order)]


def least_quorums(book, kind, order):
    """All least quorums in the order of point 6.1, by a plain list of all rows."""
    if order == 0:
        return [(0,)]
    size = book.width ** (order - 1)
    rule = book.rules[kind]
    lists = [least_quorums(book, below, order - 1) for below in rule.row]
    found = []
    for least in rule.family:
        for row in itertools.product(*[lists[place] for place in least]):
            found.append(tuple(place * size + number for place, part in zip(least, row) for number in part))
    return found


# Wrong values, for whoever passes MAJ, its kind a, and orders up to 2.
OBJECTS = (MAJ, TREE, FREE, MAJ["a"], InvalidNumber(3), InvalidBook("no book"), UnknownName("a"))
NUMBERS = plain.FULL_INTEGERS + plain.LONG_INTEGERS + (True, False, -1, 0, 1, 3, 200, 201)
VALUES = plain.PLAIN_VALUES + NUMBERS + OBJECTS + ("a", "t", "at", "01", "01 02", (0,), ((0, 1),), ("a", "a"))

NO_BOOKS = tuple(value for value in VALUES if not isinstance(value, Book)) + (MAJ.lines, MAJ.rules, str(MAJ))
NO_KINDS = tuple(value for value in VALUES if value != "a") + ("b", "z", "A", "aa", ("a",), ["a"])
NO_ORDERS = plain.ODD_VALUES + plain.LONG_INTEGERS + plain.FULL_INTEGERS + (
    True, False, -1, -200, 201, 202, 1000, 10 ** 30, "0", "1", (0,), [0], (), {0: 0}, "a", MAJ)
