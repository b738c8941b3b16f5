"""Loads by plain sums over mixtures and weights, which prove each other: points 14.1 to 14.3."""

import functools
import itertools
import random
import time
import unittest
from fractions import Fraction
from unittest import mock

from grownquorums.books.books import Book
from grownquorums.errors import InvalidBook, InvalidNumber, InvalidOperation, TooMany, UnknownName
from grownquorums.measure import loads as module
from grownquorums.measure.loads import MAX_FIGURES, busyness, is_load_paper, load, load_paper, worth
from tests import plain, samples
from tests.refusal import Refusal
from tests.samples import FREE, MAJ, ODD, ROWS, TREE

# The integers of its loads grow by two figures from order to order.
HEAVY = Book.from_lines(
    "width 5", "kind a of f f d c d least 0124 013 023 034 1234", "kind b of a b e e d least 013 014 02 034 123 124",
    "kind c of b c a c c least 012 014 024 03 123 234", "kind d of f b d f e least 012 013 023 04 1234",
    "kind e of f e c b b least 013 02 12 23", "kind f of a b d d e least 01 02 034 124 13 234")

# The same, but for the kind f, which does not depend on the others.
HEAVY_BESIDE = Book.from_lines(
    "width 5", "kind a of c e a a a least 01 023 034 123 124 134", "kind b of c c b d d least 012 013 014 124 134 234",
    "kind c of a c a e b least 0124 023 034 13 234", "kind d of c c e e b least 013 024 034 124 134 234",
    "kind e of e a c e c least 014 023 123 24 34", "kind f of f f f f f least 01234")

EVEN = ((1, 3), (1, 3), (1, 3))


@functools.lru_cache(maxsize=None)
def some_books():
    return [MAJ, TREE, FREE, ROWS, ODD, HEAVY] + samples.books(sizes=(1, 2, 4, 6), seeds=2)


def ratio(value):
    return (value.numerator, value.denominator)


def ratios(values):
    return tuple(ratio(Fraction(value)) for value in values)


@functools.lru_cache(maxsize=None)
def known_load(lines, kind, order):
    return Fraction(*load(Book.from_lines(*lines), kind, order))


def place_loads(book, kind, order):
    return [known_load(book.lines, made, order - 1) for made in book.rules[kind].row]


def plain_busyness(book, kind, order, mixture):
    family, below = book.rules[kind].family, place_loads(book, kind, order)
    return max(sum((Fraction(*part) for least, part in zip(family, mixture) if place in least), Fraction(0)) * one
               for place, one in enumerate(below))


def plain_worth(book, kind, order, weights):
    family, below = book.rules[kind].family, place_loads(book, kind, order)
    return min(sum(Fraction(*weights[place]) * below[place] for place in least) for least in family)


def are_parts(many, parts):
    return len(parts) == many and sum(Fraction(*part) for part in parts) == 1 and all(
        part[0] >= 0 and part == ratio(Fraction(*part)) for part in parts)


def random_parts(many, chosen):
    tops = [chosen.choice((0, 1, 1, 2, 3, 10 ** 30, chosen.randrange(1000))) for _ in range(many)]
    tops[chosen.randrange(many)] += 1
    return ratios(Fraction(top, sum(tops)) for top in tops)


class Example(unittest.TestCase):
    def test_the_examples_of_the_document(self):
        self.assertEqual(
            [load(MAJ, "a", 2), [load(TREE, "t", order) for order in range(4)], load(FREE, "w", 100),
             load(FREE, "r", 3)],
            [(4, 9), [(1, 1), (2, 3), (1, 2), (2, 5)], (1, 1), (1, 27)])
        self.assertEqual(
            [busyness(MAJ, "a", 2, EVEN), worth(MAJ, "a", 2, EVEN), is_load_paper(MAJ, "a", 7, (EVEN, EVEN)),
             busyness(TREE, "t", 2, EVEN), worth(TREE, "t", 2, EVEN)],
            [(4, 9), (4, 9), True, (2, 3), (4, 9)])
        self.assertEqual(
            [load_paper(TREE, "t", 2), is_load_paper(TREE, "t", 2, (((1, 4), (1, 4), (1, 2)), EVEN))],
            [(((1, 4), (1, 4), (1, 2)), ((1, 4), (3, 8), (3, 8))), False])

    def test_constants_and_names(self):
        self.assertEqual(MAX_FIGURES, 400)
        for name in "load busyness worth load_paper is_load_paper".split():
            self.assertEqual(getattr(module, name).__module__, "grownquorums.measure.loads")


class Loads(unittest.TestCase):
    def look(self, book, kind, order, limit=10 ** 400):
        """A mixture with some busyness and weights with the same worth: no load is less, and none is greater."""
        mixture, weights = load_paper(book, kind, order)
        expected = Fraction(*load(book, kind, order))
        self.assertTrue(are_parts(len(book[kind]), mixture))
        self.assertTrue(are_parts(book.width, weights))
        self.assertEqual(plain_busyness(book, kind, order, mixture), expected)
        self.assertEqual(plain_worth(book, kind, order, weights), expected)
        for part in mixture + weights:
            self.assertLess(max(part), limit)
        if limit == 10 ** 400:
            self.assertIs(is_load_paper(book, kind, order, (mixture, weights)), True)

    def test_low_orders(self):
        for book in some_books():
            for kind in book:
                self.assertEqual(load(book, kind, 0), (1, 1))
                for order in range(1, 6):
                    self.look(book, kind, order)

    def test_great_orders(self):
        for book in some_books():
            for order in (20, 60, 120, 200):
                loads = [known_load(book.lines, kind, at) for kind in book for at in (order // 2, order - 1, order)
                         if book is not HEAVY or order < 30]
                if loads and max(one.denominator for one in loads) < 10 ** 50:
                    for kind in book:
                        self.look(book, kind, order)

    def test_loads_that_are_known(self):
        for order in range(0, 201, 25):
            self.assertEqual(load(MAJ, "a", order), ratio(Fraction(2, 3) ** order))
            self.assertEqual(load(TREE, "t", order), ratio(Fraction(2, order + 2)))
            self.assertEqual((load(TREE, "s", order), load(FREE, "w", order)), ((1, 1), (1, 1)))
            self.assertEqual(load(FREE, "r", order), (1, 3 ** order))
            self.assertEqual(load(ODD, "b", order), (1, 2 ** order))
        cut = Book.from_lines("width 4", "kind a of a a a a least 012 013 023 123")
        self.assertEqual(load(cut, "a", 200), (3 ** 200, 4 ** 200))

    def test_all_quorums_of_the_order_2(self):
        """Point 14.1 itself: picks by the mixtures of both orders, and weights of the seats by those of both."""
        for book in (MAJ, TREE, FREE, ROWS, ODD):
            for kind, rule in book.rules.items():
                papers = {made: load_paper(book, made, 1) for made in book}
                mixture, weights = load_paper(book, kind, 2)
                shares = {seat: Fraction(0) for seat in samples.seats(book.width, 2)}
                for least, part in zip(rule.family, mixture):
                    for place in least:
                        made = rule.row[place]
                        for other, below in zip(book.rules[made].family, papers[made][0]):
                            for last in other:
                                shares[(place, last)] += Fraction(*part) * Fraction(*below)
                self.assertEqual(ratio(max(shares.values())), load(book, kind, 2))
                worths = {seat: Fraction(*weights[seat[0]]) * Fraction(*papers[rule.row[seat[0]]][1][seat[1]])
                          for seat in shares}
                seats = samples.seats(book.width, 2)
                sums = [sum(worths[seats[number]] for number in crowd)
                        for crowd in samples.least_quorums(book, kind, 2)]
                self.assertEqual((ratio(min(sums)), sum(worths.values())), (load(book, kind, 2), 1))

    def test_too_many_figures(self):
        last = next(order for order in range(200, 0, -1) if not self.has_too_many(HEAVY, "a", order))
        self.assertTrue(150 < last < 200)
        great = 10 ** 9000
        with mock.patch.object(module, "_OUT_OF_REACH", great):
            for order in [*range(0, last, 20), *range(last - 5, 201)]:
                loads = [load(HEAVY, kind, order) for kind in HEAVY]
                self.assertEqual(max(max(one) for one in loads) < 10 ** 400, order <= last)
            self.look(HEAVY, "a", last + 1, great)
            self.look(HEAVY, "e", 200, great)
        for kind in HEAVY:
            self.assertLess(max(load(HEAVY, kind, last)), 10 ** 400)
            for order in (last + 1, 200):
                for function in (load, load_paper, lambda *values: is_load_paper(*values, None)):
                    with self.assertRaises(TooMany) as caught:
                        function(HEAVY, kind, order)
                    self.assertIs(type(caught.exception), TooMany)
                    self.assertEqual(caught.exception.limit, 400)

    def has_too_many(self, book, kind, order):
        try:
            load(book, kind, order)
        except TooMany:
            return True
        return False

    def test_the_loads_of_all_kinds_of_the_book_count(self):
        # The load of f is always 1, but it is not told where those of the others have too many figures.
        book = HEAVY_BESIDE
        last = next(order for order in range(200, 0, -1) if not self.has_too_many(book, "a", order))
        self.assertTrue(150 < last < 200)
        self.assertEqual(load(book, "f", last), (1, 1))
        for kind in book:
            for order in (last + 1, 200):
                self.assertIs(self.has_too_many(book, kind, order), True)
        self.assertEqual(load(book.part("f"), "f", 200), (1, 1))

    def test_just_as_many_figures_as_are_let(self):
        for limit in (3 ** 40, 3 ** 40 + 1):
            with mock.patch.object(module, "_OUT_OF_REACH", limit):
                self.assertEqual(load(MAJ, "a", 39), ratio(Fraction(2, 3) ** 39))
                if limit == 3 ** 40:
                    self.assertRaises(TooMany, load, MAJ, "a", 40)
                    self.assertRaises(TooMany, load, MAJ, "a", 41)
                else:
                    self.assertEqual(load(MAJ, "a", 40), ratio(Fraction(2, 3) ** 40))


class Sums(unittest.TestCase):
    def test_mixtures_and_weights(self):
        chosen = random.Random(141)
        for book in some_books():
            for kind in book:
                for order in (1, 2, 3, 10):
                    for _ in range(3):
                        mixture = random_parts(len(book[kind]), chosen)
                        weights = random_parts(book.width, chosen)
                        busy = busyness(book, kind, order, mixture)
                        value = worth(book, kind, order, weights)
                        self.assertEqual(busy, ratio(plain_busyness(book, kind, order, mixture)))
                        self.assertEqual(value, ratio(plain_worth(book, kind, order, weights)))
                        at = Fraction(*load(book, kind, order))
                        self.assertTrue(Fraction(*value) <= at <= Fraction(*busy))
                        self.assertIs(is_load_paper(book, kind, order, (mixture, weights)), busy == value)

    def test_integers_of_400_digits(self):
        great = 10 ** 399
        parts = ((1, great), (great - 2, great), (1, great))
        parts = ratios(Fraction(*part) for part in parts)
        self.assertEqual(busyness(MAJ, "a", 1, parts), ratio(1 - Fraction(1, great)))
        self.assertEqual(worth(MAJ, "a", 1, parts), ratio(Fraction(2, great)))
        over = ratios((Fraction(1, 10 ** 400), 1 - Fraction(1, 10 ** 400), Fraction(0)))
        self.assertRaises(InvalidOperation, busyness, MAJ, "a", 1, over)
        self.assertIs(is_load_paper(MAJ, "a", 1, (over, EVEN)), False)


class Papers(unittest.TestCase):
    def test_papers_made_otherwise(self):
        half, fourth = (1, 2), (1, 4)
        halves = (half, half)
        for weights in (((half, (0, 1), half, (0, 1))), (fourth,) * 4, ((0, 1), half, (1, 8), (3, 8)),
                        ((1, 3), (1, 6), half, (0, 1))):
            self.assertIs(is_load_paper(ODD, "b", 3, (halves, weights)), True)
        for weights in ((half, half, (0, 1), (0, 1)), (fourth, (1, 8), half, (1, 8)), ((1, 3), (1, 3), (1, 3), (0, 1))):
            self.assertIs(is_load_paper(ODD, "b", 3, (halves, weights)), False)
        book = Book.from_lines("width 3", "kind a of a a a least 0 12", "kind b of a b a least 0 1")
        for part in (Fraction(0), Fraction(1, 3), Fraction(1)):
            parts = ratios((Fraction(1, 2), part / 2, (1 - part) / 2))
            self.assertIs(is_load_paper(book, "a", 1, (halves, parts)), True)

    def bent(self, paper, chosen):
        """Papers with two parts exchanged, or with a little more here and less there."""
        for side in (0, 1):
            parts = paper[side]
            for one, other in itertools.combinations(range(len(parts)), 2):
                values = [Fraction(*part) for part in parts]
                values[one], values[other] = values[other], values[one]
                yield side, values
                values = [Fraction(*part) for part in parts]
                some = min(values[one], Fraction(1, chosen.randrange(2, 50)))
                values[one] -= some
                values[other] += some
                yield side, values

    def test_bent_papers(self):
        chosen = random.Random(142)
        found = {True: 0, False: 0}
        for book in some_books():
            for kind in book:
                for order in (1, 2, 5):
                    paper = load_paper(book, kind, order)
                    for side, values in self.bent(paper, chosen):
                        other = tuple(ratios(values) if at == side else part for at, part in enumerate(paper))
                        expected = plain_busyness(book, kind, order, other[0]) == plain_worth(
                            book, kind, order, other[1])
                        found[expected] += 1
                        self.assertIs(is_load_paper(book, kind, order, other), expected)
        self.assertGreater(min(found.values()), 100)

    def test_values_that_are_no_papers(self):
        self.assertIs(is_load_paper(MAJ, "a", 1, (EVEN, EVEN)), True)
        for parts in NO_PARTS:
            for value in ((parts, EVEN), (EVEN, parts), (parts, parts), parts):
                self.assertIs(is_load_paper(MAJ, "a", 1, value), False)
        for value in samples.VALUES + (
                (EVEN,), (EVEN, EVEN, EVEN), [EVEN, EVEN], {0: EVEN, 1: EVEN}, EVEN, (), (EVEN, None)):
            self.assertIs(is_load_paper(MAJ, "a", 1, value), False)
        mixture, weights = load_paper(TREE, "t", 2)
        self.assertIs(is_load_paper(TREE, "t", 2, (weights, mixture)), False)


class Quick(unittest.TestCase):
    def test_great_orders(self):
        chosen = random.Random(143)
        start = time.process_time()
        for family in ("012 013 014 023 024 034 123 124 134 234", "0123 024 034 14 234", "012 014 03 13 234"):
            lines = [f"kind {kind} of {' '.join(chosen.choices('abcdef', k=5))} least {family}" for kind in "abcdef"]
            book = Book.from_lines("width 5", *lines)
            for kind in book:
                try:
                    load(book, kind, 200)
                    load_paper(book, kind, 200)
                except TooMany:
                    self.assertNotIn("0123", family.split()[0][:3])
        for _ in range(20):
            self.assertEqual(load(TREE, "t", 200), (1, 101))
        self.assertLess(time.process_time() - start, 10)


NO_PARTS = samples.VALUES + (
    (), ((1, 1),), ((1, 2), (1, 2)), ((1, 4),) * 4, ((1, 3), (1, 3), (1, 6)), ((1, 3), (1, 3), (2, 3)),
    ((1, 2), (1, 2), (1, 2)), ((1, 1), (1, 1), (-1, 1)), ((2, 1), (-1, 1), (0, 1)), ((2, 6), (1, 3), (1, 3)),
    ((1, 2), (2, 4), (0, 1)), ((1, 2), (1, 2), (0, 2)), ((1, 2), (1, 2), (0, -1)), ((1, 2), (1, 2), 0),
    ((1, 1), 0, 0), (1, 0, 0), ((1, 2), (1, 2), None), ((1, 2), (1, 2), [0, 1]), [(1, 3), (1, 3), (1, 3)],
    ((True, 3), (1, 3), (1, 3)), ((1, 1), (0, True), (0, 1)), ((1, 1), (False, 1), (0, 1)), ((1, 3), (1, 3), "1/3"),
    {(1, 3): (1, 3)}, ((-1, -3), (1, 3), (1, 3)), ((0, 1), (0, 1), (0, 1)), ((1, 1), (10 ** 400, 1), (-10 ** 400, 1)),
    ((1, 3, 1), (1, 3), (1, 3)), ((1,), (1, 3), (1, 3)), (((1, 3), (1, 3), (1, 3)),), ((1, 0), (0, 1), (0, 1)),
)


class Wrong(Refusal, unittest.TestCase):
    GOOD = {"book": MAJ, "kind": "a", "order": 2, "order from 1": 2, "mixture": EVEN,
            "weights": ((1, 2), (1, 4), (1, 4)), "value": None}
    WRONG = {
        "book": (samples.NO_BOOKS, InvalidBook),
        "kind": (samples.NO_KINDS, UnknownName),
        "order": (samples.NO_ORDERS, InvalidNumber),
        "order from 1": (samples.NO_ORDERS + (0,), InvalidNumber),
        "mixture": (NO_PARTS, InvalidOperation),
        "weights": (NO_PARTS, InvalidOperation),
    }
    CALLS = (
        (load, ("book", "kind", "order")),
        (busyness, ("book", "kind", "order from 1", "mixture")),
        (worth, ("book", "kind", "order from 1", "weights")),
        (load_paper, ("book", "kind", "order from 1")),
        (is_load_paper, ("book", "kind", "order from 1", "value")),
    )

    def test_what_comes_then(self):
        for function in (busyness, worth):
            self.refused(function, (HEAVY, "a", 200, None), InvalidOperation)
            self.refused(function, (HEAVY, "?", 200, None), UnknownName, "?")
            self.refused(function, (HEAVY, "a", 201, None), InvalidNumber, 201)
        self.refused(busyness, (HEAVY, "a", 200, ((1, 5),) * 5), TooMany, 400)
        self.refused(worth, (HEAVY, "a", 200, ((1, 5),) * 5), TooMany, 400)
        self.refused(busyness, (HEAVY, "b", 200, ((1, 5),) * 5), InvalidOperation)
        self.refused(is_load_paper, (HEAVY, "a", 200, None), TooMany, 400)


if __name__ == "__main__":
    unittest.main()
