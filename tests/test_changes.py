"""Changed books against what they are made of: stage 15."""

import itertools
import random
import unittest

from grownquorums.books.books import Book
from grownquorums.decide.duals import are_alike, classes_of
from grownquorums.decide.meets import Meetings, falling_order
from grownquorums.decide.overlaps import overlap
from grownquorums.errors import InvalidBook, InvalidOperation, InvalidSeat
from grownquorums.measure.loads import load
from grownquorums.measure.sizes import count_least, fewest_failures, greatest_size, least_size
from grownquorums.seats.systems import crowd_holds, each_least, held_kinds
from grownquorums.use import changes as module
from grownquorums.use.changes import doubled_book, least_book, permuted_book, permuted_seat, renamed_book
from tests import plain, samples
from tests.refusal import Refusal
from tests.samples import FREE, MAJ, ODD, ROWS, TREE
from tests.test_duals import MORE, ordered_books

LAST = (0, 4, 3, 1, 2)


def some_books():
    return [MAJ, TREE, FREE, ROWS, ODD] + samples.books(sizes=(1, 2, 3, 6), seeds=2)


def random_crowds(width, order, many, seed):
    chosen = random.Random(repr((width, order, seed)))
    seats = range(width ** order)
    return [tuple(sorted(chosen.sample(seats, chosen.randrange(len(seats) + 1)))) for _ in range(many)]


def moved(width, order, crowd, places):
    """The crowd of the seats with other places."""
    seats = samples.seats(width, order)
    return tuple(sorted(seats.index(tuple(places[place] for place in seats[number])) for number in crowd))


class Example(unittest.TestCase):
    def test_the_examples_of_the_document(self):
        turned = permuted_book(TREE, (2, 0, 1))
        self.assertEqual(
            [turned.lines[2], permuted_seat((0, 2), (2, 0, 1)), renamed_book(MAJ, {"a": "z"}).lines[1]],
            ["kind t of t t s least 01 02 12", (2, 1), "kind z of z z z least 01 02 12"])
        rows = Book.from_lines("width 2", "kind o of o u least 0 1", "kind u of u u least 01")
        self.assertEqual(
            [doubled_book(rows).lines[1], doubled_book(rows).lines[2]],
            ["kind o of o u u u least 0 1 23", "kind u of u u u u least 0123"])
        more = Book.from_lines(
            "width 3", "kind a of b a c least 01 02 12", "kind b of a b b least 01 02 12",
            "kind c of b b a least 01 02 12", "kind d of a b a least 0")
        self.assertEqual(
            least_book(more).lines[1:], ("kind a of a a a least 01 02 12", "kind d of a a a least 0"))

    def test_names(self):
        for name in "permuted_book permuted_seat renamed_book doubled_book least_book".split():
            self.assertEqual(getattr(module, name).__module__, "grownquorums.use.changes")


class Permuted(unittest.TestCase):
    def test_all_orders_of_places(self):
        for book in some_books():
            width = book.width
            for places in itertools.permutations(range(width)):
                if width == 5 and places != LAST and places[0] != 3:
                    continue
                turned = permuted_book(book, places)
                for order in range(3 if width < 4 else 2):
                    for crowd in random_crowds(width, order, 4, places):
                        self.assertEqual(held_kinds(turned, order, moved(width, order, crowd, places)),
                                         held_kinds(book, order, crowd))
                back = tuple(places.index(place) for place in range(width))
                self.assertEqual(permuted_book(turned, back), book)

    def test_rows_and_families(self):
        for book in some_books():
            places = LAST if book.width == 5 else tuple(range(book.width))[::-1]
            turned = permuted_book(book, places)
            self.assertEqual(turned.kinds, book.kinds)
            for kind, rule in book.rules.items():
                other = turned.rules[kind]
                self.assertEqual([other.row[places[place]] for place in range(book.width)], list(rule.row))
                sets = sorted(tuple(sorted(places[place] for place in least)) for least in rule.family)
                self.assertEqual(list(other.family), sets)

    def test_all_crowds_of_the_order_1(self):
        for book in some_books():
            for places in (LAST if book.width == 5 else tuple(range(1, book.width)) + (0,),):
                turned = permuted_book(book, places)
                for kind in book:
                    for crowd in samples.crowds(book.width, 1):
                        self.assertIs(
                            crowd_holds(turned, kind, 1, moved(book.width, 1, crowd, places)),
                            crowd_holds(book, kind, 1, crowd))

    def test_seats_there_and_back(self):
        chosen = random.Random(151)
        for width in plain.WIDTHS:
            for places in itertools.permutations(range(width)):
                back = tuple(places.index(place) for place in range(width))
                for many in (0, 1, 5, 200):
                    seat = tuple(chosen.choices(range(width), k=many))
                    found = permuted_seat(seat, places)
                    self.assertEqual(found, tuple(places[place] for place in seat))
                    self.assertEqual(permuted_seat(found, back), seat)


class Renamed(unittest.TestCase):
    def test_other_and_exchanged_letters(self):
        chosen = random.Random(152)
        for book in some_books():
            for letters in (samples.LETTERS, book.kinds):
                names = dict(zip(book.kinds, chosen.sample(letters, len(book))))
                other = renamed_book(book, names)
                self.assertEqual(other.kinds, tuple(sorted(names.values())))
                self.assertEqual(len(other), len(book))
                for kind, rule in book.rules.items():
                    self.assertEqual(other[names[kind]].family, rule.family)
                    self.assertEqual(other[names[kind]].row, tuple(names[made] for made in rule.row))
                self.assertEqual(renamed_book(other, {name: kind for kind, name in names.items()}), book)
                for order in range(3):
                    for crowd in random_crowds(book.width, order, 2, "names"):
                        held = held_kinds(book, order, crowd)
                        self.assertEqual(held_kinds(other, order, crowd), tuple(sorted(names[kind] for kind in held)))

    def test_exchanged_letters(self):
        self.assertEqual(renamed_book(TREE, {"t": "s", "s": "t"}).lines, (
            "width 3", "kind s of t s s least 01 02 12", "kind t of t t t least 0"))


class Doubled(unittest.TestCase):
    def books(self):
        return [ROWS] + samples.books(widths=(2,), sizes=(1, 2, 3, 6), seeds=4)

    def test_orders_beside_twice_as_great_ones(self):
        # The seats of both have the same numbers, as two digits of base 2 are one of base 4.
        for book in self.books():
            other = doubled_book(book)
            self.assertEqual((other.width, other.kinds), (4, book.kinds))
            for kind in book:
                for order in range(3):
                    if count_least(book, kind, 2 * order) < 2000:
                        self.assertEqual(sorted(each_least(other, kind, order)),
                                         sorted(each_least(book, kind, 2 * order)))
                for order in (0, 1, 2, 3, 50, 100):
                    for function in (least_size, greatest_size, fewest_failures, load):
                        self.assertEqual(function(other, kind, order), function(book, kind, 2 * order))
                for order in range(3):
                    for crowd in random_crowds(4, order, 10, kind):
                        self.assertIs(
                            crowd_holds(other, kind, order, crowd), crowd_holds(book, kind, 2 * order, crowd))

    def test_meeting(self):
        for book in self.books():
            other = doubled_book(book)
            for size in (2, 3):
                falls, others = Meetings(book, size).falls, Meetings(other, size).falls
                self.assertEqual(others, {group: (fall + 1) // 2 for group, fall in falls.items()})
                for group in samples.groups(book, size):
                    for order in (0, 1, 2, 7, 100):
                        self.assertEqual(overlap(other, group, order), overlap(book, group, 2 * order))

    def test_books_of_another_width(self):
        for book in (MAJ, TREE, ODD, samples.random_book(5, 2, 1), doubled_book(ROWS)):
            with self.assertRaises(InvalidOperation) as caught:
                doubled_book(book)
            self.assertIs(type(caught.exception), InvalidOperation)


class Least(unittest.TestCase):
    def books(self):
        doubled = []
        for book in some_books():
            if len(book) < 4:
                letters = [letter for letter in samples.LETTERS if letter not in book]
                other = renamed_book(book, dict(zip(book.kinds, letters)))
                joined = book.joined(other)
                rules = {kind: joined[kind] for kind in joined}
                # The second kinds are made of the first ones and of themselves.
                for kind, letter in zip(book.kinds, letters):
                    row = tuple(made if at % 2 else other_made for at, (made, other_made) in enumerate(
                        zip(book[kind].row, joined[letter].row)))
                    rules[letter] = type(book[kind])(row, book[kind].family)
                doubled.append(Book(book.width, rules))
        return some_books() + doubled + [MORE] + ordered_books()[::5]

    def test_alike_kinds_become_one(self):
        fewer = 0
        for book in self.books():
            classes = classes_of(book)
            other = least_book(book)
            fewer += len(other) < len(book)
            self.assertEqual(other.kinds, tuple(alike[0] for alike in classes))
            self.assertEqual(other.width, book.width)
            self.assertEqual(len(classes_of(other)), len(other))
            self.assertEqual(least_book(other), other)
            for alike in classes:
                rule = other[alike[0]]
                self.assertEqual(rule.family, book[alike[0]].family)
                for place in range(book.width):
                    made = book[alike[0]].row[place]
                    head = next(some[0] for some in classes if made in some)
                    self.assertEqual(rule.row[place], head if place in rule.used else book.kinds[0])
                for kind in alike:
                    self.assertIs(are_alike(book, other, kind, alike[0]), True)
        self.assertGreater(fewer, 10)

    def test_the_kinds_that_stay_tell_what_they_told(self):
        for book in self.books():
            other = least_book(book)
            for kind in other:
                for order in (0, 1, 2, 50):
                    for function in (least_size, fewest_failures, load):
                        self.assertEqual(function(other, kind, order), function(book, kind, order))
            for group in samples.groups(other, 2) + samples.groups(other, 3):
                self.assertEqual(falling_order(other, group), falling_order(book, group))

    def test_places_that_are_not_used(self):
        book = Book.from_lines("width 3", "kind b of c b c least 1", "kind c of b c b least 1 2", "kind x of x b c least 0")
        self.assertEqual(least_book(book).lines, (
            "width 3", "kind b of b b b least 1", "kind c of b c b least 1 2", "kind x of x b b least 0"))


NO_ORDERS_OF_PLACES = samples.VALUES + (
    (), (0, 1), (0, 1, 2, 3), (0, 0, 1), (1, 2, 3), (0, 1, True), (False, 1, 2), (0, 1, "2"), [0, 1, 2], "012",
    {0: 0, 1: 1, 2: 2}, (0, 1, None), (0, 1, -1), (10 ** 400, 0, 1), ((0,), (1,), (2,)), (2, 1, 0, 0), (0, [1], 2),
)


class Wrong(Refusal, unittest.TestCase):
    GOOD = {"book": TREE, "places": (2, 0, 1), "seat": (0, 2, 1), "any places": (1, 2, 0),
            "names": {"s": "t", "t": "s"}, "narrow book": ROWS}
    WRONG = {
        "book": (samples.NO_BOOKS, InvalidBook),
        "narrow book": (samples.NO_BOOKS, InvalidBook),
        "places": (NO_ORDERS_OF_PLACES, InvalidOperation),
        "any places": (tuple(value for value in NO_ORDERS_OF_PLACES if value not in ((0, 1), (0, 1, 2, 3))) + (
            (0,), (1, 2, 3, 4, 5), (0, 1, 2, 3, 4, 5), (5, 4, 3, 2, 1, 0)), InvalidOperation),
        "seat": (tuple(value for value in samples.VALUES if value != (0,)) + (
            (5,), (-1,), (0, 5), (0, True), (False,), [0], "0", "012", (0, None), ((0,),), (10 ** 400,), (0,) * 201,
            (0,) * 5000, {0: 0}), InvalidSeat),
        "names": (samples.VALUES + (
            {}, {"s": "s"}, {"s": "a", "t": "a"}, {"s": "a", "u": "b"}, {"s": "a", "t": "b", "u": "c"},
            {"s": "A", "t": "b"}, {"s": "aa", "t": "b"}, {"s": None, "t": "b"}, {"s": ["a"], "t": "b"},
            {"s": ("a",), "t": "b"}, {"s": 1, "t": 2}, [("s", "t"), ("t", "s")], (("s", "t"), ("t", "s")), "st",
            {("s",): "a", "t": "b"}, {None: "a", "t": "b"}, {"s": "", "t": "b"}, {"s": "a"}, {1: "a", 2: "b"},
        ), InvalidOperation),
    }
    CALLS = (
        (permuted_book, ("book", "places")),
        (permuted_seat, ("seat", "any places")),
        (renamed_book, ("book", "names")),
        (doubled_book, ("narrow book",)),
        (least_book, ("book",)),
    )

    def test_a_seat_with_another_place(self):
        for places in ((0, 1), (1, 0), (2, 1, 0), (3, 2, 1, 0)):
            for seat in ((4,), (0, 1, 4), (1, len(places)), (len(places),) * 200):
                self.refused(permuted_seat, (seat, places), InvalidSeat)
        self.refused(permuted_seat, ((4, 5), None), InvalidSeat)
        self.refused(permuted_seat, ((4,), (0, 2)), InvalidOperation)
        self.assertEqual(permuted_seat((4,) * 200, (4, 3, 2, 1, 0)), (0,) * 200)
        self.assertEqual(permuted_seat((), (1, 0)), ())


if __name__ == "__main__":
    unittest.main()
