"""Chances against sums over all crowds, and steps against the chances of the orders: points 13.1 to 13.3."""

import functools
import itertools
import math
import random
import time
import unittest
from fractions import Fraction

from grownquorums.books.books import Book
from grownquorums.errors import InvalidBook, InvalidNumber, InvalidOperation, TooMany, UnknownName
from grownquorums.measure import chances as module
from grownquorums.measure.chances import (
    MAX_DIGITS, MAX_SEATS, chance, drift, fixed_between, limit, step, threshold_digits,
)
from tests import plain, samples
from tests.refusal import Refusal
from tests.samples import FREE, MAJ, ODD, ROWS, TREE

LAST_ORDERS = {2: 12, 3: 7, 4: 6, 5: 5}
UPS = ((0, 1), (1, 1), (1, 2), (1, 3), (3, 5), (99, 100), (1, 10 ** 20 - 1), (10 ** 20 - 2, 10 ** 20 - 1))
FULL = 10 ** 20 - 1


def some_books():
    return [MAJ, TREE, FREE, ROWS, ODD] + samples.books(sizes=(1, 2, 3), seeds=2)


def ratio(value):
    return (value.numerator, value.denominator)


def plain_chance(book, kind, order, up):
    """The sum over all sets of places, order by order."""
    if order == 0:
        return up
    rule = book.rules[kind]
    below = [plain_chance(book, made, order - 1, up) for made in rule.row]
    total = Fraction(0)
    for places in plain.all_sets(book.width):
        if any(set(least) <= set(places) for least in rule.family):
            total += math.prod(below[at] if at in places else 1 - below[at] for at in range(book.width))
    return total


@functools.lru_cache(maxsize=None)
def pure_books():
    """Books with one kind that is pure: of all families of widths 2 and 3, and of some of widths 4 and 5."""
    chosen = random.Random(131)
    rows = [(width, family) for width in (2, 3) for family in samples.families(width)]
    rows += [(4, family) for family in chosen.sample(samples.families(4), 60)]
    rows += [(width, samples.random_family(width, chosen)) for width in (4, 5) for _ in range(40)]
    rows += [(5, ((0, 1, 2), (0, 3), (1, 2, 4))), (5, ((4,),)), (4, ((1,),)), (5, ((0, 1, 2, 3, 4),))]
    return [Book.from_lines(f"width {width}", f"kind k of {' '.join('k' * width)} least {plain.text_of(family)}")
            for width, family in rows]


def mixed_book():
    """Pure kinds beside others: at places that are not used stands anything."""
    return Book.from_lines(
        "width 4", "kind a of a a b c least 01", "kind b of a b b b least 12 13 23", "kind c of a a a a least 01",
        "kind d of a b c d least 3", "kind e of e e e a least 012 3", "kind f of f f f f least 01 02 12")


def polynomial(coefficients, at):
    return sum(Fraction(number) * at ** degree for degree, number in enumerate(coefficients))


def plain_rise(book, kind, at):
    return plain_chance(book, kind, 1, at) - at


@functools.lru_cache(maxsize=None)
def signs(lines, kind):
    """The signs of the rises at many numbers between 0 and 1, ascending."""
    book = Book.from_lines(*lines)
    points = [Fraction(at, 97) for at in range(1, 97)] + [Fraction(1, 10 ** 6), 1 - Fraction(1, 10 ** 6)]
    return [(point, (plain_rise(book, kind, point) > 0) - (plain_rise(book, kind, point) < 0))
            for point in sorted(points)]


def has_threshold(book, kind):
    return {-1, 1} <= {sign for _, sign in signs(book.lines, kind)}


def is_all_fixed(book, kind):
    return {sign for _, sign in signs(book.lines, kind)} == {0}


class Example(unittest.TestCase):
    def test_the_examples_of_the_document(self):
        self.assertEqual(
            [chance(MAJ, "a", 1, (3, 5)), chance(FREE, "r", 1, (1, 3)), chance(TREE, "t", 2, (1, 2)), step(MAJ, "a"),
             step(TREE, "s")],
            [(81, 125), (19, 27), (1, 2), (0, 0, 3, -2), (0, 1, 0, 0)])
        self.assertEqual(
            [drift(MAJ, "a", (3, 5)), drift(MAJ, "a", (1, 2)), drift(FREE, "r", (1, 100)),
             fixed_between(MAJ, "a", (0, 1), (1, 1)), fixed_between(TREE, "s", (0, 1), (1, 1))],
            [1, 0, 1, 1, None])
        odd = Book.from_lines("width 4", "kind b of b b b b least 01 23")
        self.assertEqual(
            [limit(MAJ, "a", (2, 5)), limit(MAJ, "a", (3, 5)), limit(odd, "b", (3, 5)), drift(odd, "b", (3, 5)),
             fixed_between(odd, "b", (3, 5), (2, 3))],
            [(0, 1), (1, 1), (0, 1), -1, 1])
        self.assertEqual(
            [threshold_digits(odd, "b", 6), threshold_digits(MAJ, "a", 1), threshold_digits(FREE, "r", 3),
             threshold_digits(TREE, "s", 3)],
            [618033, 5, None, None])

    def test_constants_and_names(self):
        self.assertEqual((MAX_SEATS, MAX_DIGITS), (4096, 40))
        for name in "chance step drift fixed_between limit threshold_digits".split():
            self.assertEqual(getattr(module, name).__module__, "grownquorums.measure.chances")


class Chances(unittest.TestCase):
    def test_the_sum_over_all_crowds(self):
        for book in some_books():
            for kind in book:
                for order in range({2: 4, 3: 3}.get(book.width, 2)):
                    if book.width ** order > 9:
                        continue
                    held = [len(crowd) for crowd, holds in zip(
                        samples.crowds(book.width, order), samples.table(book, kind, order)) if holds]
                    for top, bottom in UPS:
                        up = Fraction(top, bottom)
                        expected = sum(up ** many * (1 - up) ** (book.width ** order - many) for many in held)
                        self.assertEqual(chance(book, kind, order, (top, bottom)), ratio(Fraction(expected)))

    def test_order_by_order(self):
        for book in some_books():
            for kind in book:
                for order in range(4):
                    for up in ((1, 2), (2, 7), (0, 1), (1, 1)):
                        expected = plain_chance(book, kind, order, Fraction(*up))
                        self.assertEqual(chance(book, kind, order, up), ratio(expected))

    def test_great_orders(self):
        for book in (MAJ, TREE, FREE, ROWS, ODD):
            order = LAST_ORDERS[book.width]
            for kind in book:
                for up in ((1, 2), (3, 10), (0, 1), (1, 1), (FULL - 1, FULL)):
                    top, bottom = chance(book, kind, order, up)
                    self.assertEqual(math.gcd(top, bottom), 1)
                    self.assertTrue(0 <= top <= bottom)
                    self.assertEqual(chance(book, kind, 0, up), up)
        for up in ((1, 3), (FULL - 1, FULL)):
            low, high = Fraction(*up) ** 3 ** 7, 1 - (1 - Fraction(*up)) ** 3 ** 7
            self.assertEqual(chance(FREE, "w", 7, up), ratio(low))
            self.assertEqual(chance(FREE, "r", 7, up), ratio(high))
            self.assertEqual(chance(TREE, "s", 7, up), up)
        value = Fraction(2, 5)
        for order in range(8):
            self.assertEqual(chance(MAJ, "a", order, (2, 5)), ratio(value))
            value = 3 * value ** 2 - 2 * value ** 3

    def test_the_rest_in_the_dual_book(self):
        for book in some_books() + samples.books(sizes=(6,), seeds=1):
            order = LAST_ORDERS[book.width] - 2
            for kind in book:
                for top, bottom in ((1, 3), (12, 35), (5, 6)):
                    one = Fraction(*chance(book, kind, order, (top, bottom)))
                    other = Fraction(*chance(book.dual(), kind, order, (bottom - top, bottom)))
                    self.assertEqual(one + other, 1)

    def test_integers_of_20_and_of_21_digits(self):
        for up in ((1, FULL), (FULL - 1, FULL), (10 ** 19 + 7, FULL)):
            self.assertEqual(chance(MAJ, "a", 1, up), ratio(plain_chance(MAJ, "a", 1, Fraction(*up))))
            self.assertEqual(limit(MAJ, "a", up), (1, 1) if 2 * up[0] > up[1] else (0, 1))
        for up in ((1, 10 ** 20), (10 ** 20 - 1, 10 ** 20), (10 ** 20, 10 ** 20 + 1)):
            for call in (lambda: chance(MAJ, "a", 1, up), lambda: drift(MAJ, "a", up), lambda: limit(MAJ, "a", up),
                         lambda: fixed_between(MAJ, "a", up, (1, 1)), lambda: fixed_between(MAJ, "a", (0, 1), up)):
                with self.assertRaises(InvalidNumber) as caught:
                    call()
                self.assertIs(caught.exception.value, up)


class Steps(unittest.TestCase):
    def test_by_the_chances_of_the_orders(self):
        for book in pure_books():
            coefficients = step(book, "k")
            self.assertIsInstance(coefficients, tuple)
            self.assertEqual(len(coefficients), book.width + 1)
            for up in ((0, 1), (1, 1), (1, 2), (2, 7), (5, 6), (1, 9), (7, 10)):
                value = Fraction(*up)
                for order in range(3):
                    self.assertEqual(chance(book, "k", order, up), ratio(value))
                    value = polynomial(coefficients, value)

    def test_kinds_that_are_not_pure(self):
        book = mixed_book()
        self.assertEqual([step(book, kind) for kind in "abdf"],
                         [(0, 0, 1, 0, 0), (0, 0, 3, -2, 0), (0, 1, 0, 0, 0), (0, 0, 3, -2, 0)])
        for kind in "ce":
            for call in (lambda: step(book, kind), lambda: drift(book, kind, (1, 2)), lambda: limit(book, kind, (1, 2)),
                         lambda: fixed_between(book, kind, (0, 1), (1, 1)), lambda: threshold_digits(book, kind, 3)):
                self.assertRaises(InvalidOperation, call)
        self.assertEqual([drift(book, "a", (1, 2)), limit(book, "d", (2, 3)), threshold_digits(book, "f", 2)],
                         [-1, (2, 3), 50])

    def test_drifts_and_limits(self):
        found = set()
        for book in pure_books():
            rises = signs(book.lines, "k")
            for point, sign in rises[::7] + [(Fraction(0), 0), (Fraction(1), 0)]:
                up = ratio(point)
                found.add(sign)
                self.assertEqual(drift(book, "k", up), sign)
                self.assertEqual(limit(book, "k", up), {0: up, 1: (1, 1), -1: (0, 1)}[sign])
                values = [Fraction(*chance(book, "k", order, up)) for order in range(4)]
                for low, high in zip(values, values[1:]):
                    self.assertEqual((high > low) - (high < low), sign)
        self.assertEqual(found, {-1, 0, 1})

    def test_chances_come_near_their_limits(self):
        for book in pure_books()[::5]:
            if is_all_fixed(book, "k"):
                continue
            for up in ((1, 10), (9, 10)):
                order = LAST_ORDERS[book.width]
                values = [Fraction(*chance(book, "k", at, up)) for at in (0, order)]
                goal = Fraction(*limit(book, "k", up))
                self.assertLess(abs(values[1] - goal), abs(values[0] - goal))

    def test_a_step_that_stays_equal_at_its_threshold(self):
        half = Book.from_lines("width 3", "kind a of a a a least 01 02 12")
        self.assertEqual([drift(half, "a", up) for up in ((1, 2), (49999, 100000), (50001, 100000))], [0, -1, 1])
        self.assertEqual([limit(half, "a", up) for up in ((1, 2), (0, 1), (1, 1))], [(1, 2), (0, 1), (1, 1)])


class Fixed(unittest.TestCase):
    def test_against_many_points(self):
        found = set()
        for book in pure_books():
            rises = signs(book.lines, "k")
            borders = [(Fraction(0), None)] + rises[::9] + [(Fraction(1), None)]
            for (low, _), (high, _) in itertools.combinations(borders, 2):
                expected = None
                if not is_all_fixed(book, "k"):
                    # At most one number is fixed, and the chances below it fall and those above it rise.
                    falling = [point for point, sign in rises if sign < 0]
                    rising = [point for point, sign in rises if sign > 0]
                    is_between = falling and rising and low <= falling[-1] and high >= rising[0]
                    expected = 1 if is_between else 0
                found.add(expected)
                self.assertEqual(fixed_between(book, "k", ratio(low), ratio(high)), expected)
        self.assertEqual(found, {None, 0, 1})

    def test_borders_that_are_fixed(self):
        self.assertEqual(fixed_between(MAJ, "a", (0, 1), (1, 2)), 0)
        self.assertEqual(fixed_between(MAJ, "a", (1, 2), (1, 1)), 0)
        self.assertEqual(fixed_between(MAJ, "a", (0, 1), (FULL - 1, FULL)), 1)
        self.assertEqual(fixed_between(MAJ, "a", (1, FULL), (1, 1)), 1)
        near = (5 * 10 ** 18 - 1, 10 ** 19), (5 * 10 ** 18 + 1, 10 ** 19)
        self.assertEqual(fixed_between(MAJ, "a", *near), 1)
        self.assertEqual(fixed_between(MAJ, "a", near[0], (1, 2)), 0)
        self.assertEqual(fixed_between(MAJ, "a", (1, 2), near[1]), 0)
        for kind in "rw":
            self.assertEqual(fixed_between(FREE, kind, (0, 1), (1, 1)), 0)

    def test_a_threshold_that_is_no_ratio(self):
        # It is the golden ratio, less one; the ratios of neighbours among these numbers come ever nearer.
        row = [1, 1]
        while row[-1] < 10 ** 20:
            row.append(row[-1] + row[-2])
        points = [(low, high) for low, high in zip(row, row[1:]) if high < 10 ** 20]
        for one, other in zip(points[4:], points[5:]):
            low, high = sorted((Fraction(*one), Fraction(*other)))
            self.assertEqual(fixed_between(ODD, "b", ratio(low), ratio(high)), 1)
            self.assertEqual(fixed_between(ODD, "b", (0, 1), ratio(low)), 0)
            self.assertEqual(fixed_between(ODD, "b", ratio(high), (1, 1)), 0)
            self.assertEqual((drift(ODD, "b", ratio(low)), drift(ODD, "b", ratio(high))), (-1, 1))
        golden = (math.isqrt(5 * 10 ** 80) - 10 ** 40) // 2
        self.assertEqual([threshold_digits(ODD, "b", digits) for digits in range(41)],
                         [golden // 10 ** (40 - digits) for digits in range(41)])

    def test_thresholds(self):
        found = set()
        for book in pure_books():
            found.add(has_threshold(book, "k"))
            for digits in (0, 1, 2, 3, 17, 40):
                value = threshold_digits(book, "k", digits)
                if not has_threshold(book, "k"):
                    self.assertIsNone(value)
                    continue
                scale = 10 ** digits
                self.assertTrue(0 <= value < scale)
                self.assertTrue(value == 0 or plain_rise(book, "k", Fraction(value, scale)) <= 0)
                self.assertTrue(value + 1 == scale or plain_rise(book, "k", Fraction(value + 1, scale)) > 0)
        self.assertEqual(found, {True, False})

    def test_thresholds_that_are_ratios(self):
        self.assertEqual([threshold_digits(MAJ, "a", digits) for digits in range(41)],
                         [0] + [5 * 10 ** at for at in range(40)])

    def test_of_the_dual_book(self):
        for book in pure_books():
            coefficients, others = step(book, "k"), step(book.dual(), "k")
            for at in range(5):
                value = Fraction(at, 4)
                self.assertEqual(polynomial(coefficients, value) + polynomial(others, 1 - value), 1)
            one, other = threshold_digits(book, "k", 40), threshold_digits(book.dual(), "k", 40)
            self.assertEqual(one is None, other is None)
            if one is not None:
                self.assertIn(one + other - 10 ** 40, (-1, 0))


class Quick(unittest.TestCase):
    def test_orders_with_thousands_of_seats(self):
        start = time.process_time()
        for book in samples.books(sizes=(6,), seeds=2) + [MAJ, ODD, ROWS]:
            for kind in book:
                chance(book, kind, LAST_ORDERS[book.width], (10 ** 19 + 7, FULL))
                chance(book, kind, LAST_ORDERS[book.width], (3 * 10 ** 18 + 1, 10 ** 19))
        for _ in range(20):
            threshold_digits(ODD, "b", 40)
        self.assertLess(time.process_time() - start, 20)


CHANCES = plain.ODD_VALUES + plain.LONG_INTEGERS + plain.FULL_INTEGERS + (
    True, False, 0, 1, "1/2", (1,), (1, 2, 3), [1, 2], (2, 4), (0, 2), (2, 1), (-1, 2), (1, -2), (1, 0), (0, 0),
    (True, 2), (1, True), (False, 1), (1, "2"), (None, 1), (10 ** 400, 10 ** 400 + 1), (1, 10 ** 20), (3, 2), ((1,), 2),
)


class Wrong(Refusal, unittest.TestCase):
    GOOD = {"book": MAJ, "kind": "a", "order": 2, "up": (1, 3), "low": (0, 1), "high": (2, 3), "digits": 40}
    WRONG = {
        "book": (samples.NO_BOOKS, InvalidBook),
        "kind": (samples.NO_KINDS, UnknownName),
        "order": (samples.NO_ORDERS, InvalidNumber),
        "up": (CHANCES, InvalidNumber),
        "low": (CHANCES, InvalidNumber),
        "high": (CHANCES + ((0, 1),), InvalidNumber),
        "digits": (plain.ODD_VALUES + plain.LONG_INTEGERS + plain.FULL_INTEGERS + (
            True, False, -1, 41, 42, 200, "0", (0,), [0]), InvalidNumber),
    }
    CALLS = (
        (chance, ("book", "kind", "order", "up")),
        (step, ("book", "kind")),
        (drift, ("book", "kind", "up")),
        (fixed_between, ("book", "kind", "low", "high")),
        (limit, ("book", "kind", "up")),
        (threshold_digits, ("book", "kind", "digits")),
    )

    def test_what_comes_then(self):
        for book, last in ((ROWS, 12), (MAJ, 7), (ODD, 6), (samples.random_book(5, 2, 1), 5)):
            kind = book.kinds[0]
            chance(book, kind, last, (1, 2))
            for order in (last + 1, 13, 200):
                self.refused(chance, (book, kind, order, (1, 2)), TooMany, 4096)
            self.refused(chance, (book, "?", 200, (1, 2)), UnknownName, "?")
            self.refused(chance, (book, kind, 201, (1, 2)), InvalidNumber, 201)
            wrong = (2, 4)
            self.refused(chance, (book, kind, 200, wrong), InvalidNumber, wrong)
        wrong = (1, 2)
        self.refused(fixed_between, (FREE, "g", wrong, wrong), InvalidNumber, wrong)
        self.refused(fixed_between, (FREE, "g", (2, 3), wrong), InvalidNumber, wrong)
        self.refused(fixed_between, (FREE, "g", (0, 1), (1, 1)), InvalidOperation)
        wrong = (2, 2)
        self.refused(drift, (FREE, "g", wrong), InvalidNumber, wrong)
        self.refused(limit, (FREE, "g", wrong), InvalidNumber, wrong)
        self.refused(threshold_digits, (FREE, "g", 41), InvalidNumber, 41)
        for function, values in ((step, ()), (drift, ((1, 2),)), (limit, ((1, 2),)), (threshold_digits, (3,))):
            self.refused(function, (FREE, "g", *values), InvalidOperation)
            self.refused(function, (FREE, "?", *values), UnknownName, "?")


if __name__ == "__main__":
    unittest.main()
