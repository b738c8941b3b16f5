"""Systems of low orders against plain looks: points 0.10, 0.11, 0.20, 6.1 and 6.2."""

import itertools
import random
import time
import unittest

from grownquorums.books.books import Book
from grownquorums.errors import InvalidBook, InvalidNumber, InvalidOperation, NoQuorum, TooMany, UnknownName
from grownquorums.seats import systems
from grownquorums.seats.systems import (
    crowd_holds, each_least, held_kinds, is_least_block, is_least_quorum, is_verdict, least_quorum_in, pivots, shares,
    verdict,
)
from tests import samples
from tests.refusal import Refusal, first_of
from tests.samples import FREE, MAJ, TREE

BOOKS = (MAJ, TREE, FREE, samples.ROWS, samples.ODD) + tuple(samples.books(sizes=(1, 3), seeds=2))


def low_orders(book, limit=9):
    return [order for order in range(4) if book.width ** order <= limit]


class Example(unittest.TestCase):
    def test_the_examples_of_the_document(self):
        self.assertEqual(
            [crowd_holds(MAJ, "a", 2, (0, 1, 3, 4)), crowd_holds(MAJ, "a", 2, (0, 1, 3)), held_kinds(TREE, 1, (0, 2)),
             held_kinds(FREE, 1, (1,))],
            [True, False, ("s", "t"), ("r",)])
        self.assertEqual(
            [list(each_least(MAJ, "a", 1)), len(list(each_least(TREE, "t", 2))),
             is_least_quorum(TREE, "t", 2, (0, 3, 4)), is_least_block(FREE, "r", 1, (0, 1, 2))],
            [[(0, 1), (0, 2), (1, 2)], 15, True, True])
        self.assertEqual(
            [is_verdict(MAJ, "a", 2, (0, 1, 3), ("lacks", (4, 5, 6, 7))), pivots(MAJ, "a", 2, (0, 1, 3)),
             pivots(TREE, "t", 1, (0, 1)), shares(MAJ, "a", 1)],
            [True, (4, 5), (0, 1), {0: 2, 1: 2, 2: 2}])

    def test_names(self):
        for name in ("crowd_holds held_kinds is_least_quorum is_least_block least_quorum_in each_least verdict "
                     "is_verdict pivots shares").split():
            self.assertEqual(getattr(systems, name).__module__, "grownquorums.seats.systems")


class AllCrowds(unittest.TestCase):
    def test_small_books(self):
        for book in BOOKS:
            for order in low_orders(book):
                tables = {kind: samples.table(book, kind, order) for kind in book}
                for bits, crowd in enumerate(samples.crowds(book.width, order)):
                    held = tuple(kind for kind in book if tables[kind][bits])
                    self.assertEqual(held_kinds(book, order, crowd), held)
                for kind in book:
                    self.look(book, kind, order, tables[kind])

    def look(self, book, kind, order, table):
        many = book.width ** order
        crowds = samples.crowds(book.width, order)
        least = {crowd for bits, crowd in enumerate(crowds)
                 if table[bits] and not any(table[bits ^ 1 << number] for number in crowd)}
        blocks = [not table[2 ** many - 1 - bits] for bits in range(2 ** many)]
        least_blocks = {crowd for bits, crowd in enumerate(crowds)
                        if blocks[bits] and not any(blocks[bits ^ 1 << number] for number in crowd)}
        found = list(each_least(book, kind, order))
        self.assertEqual(found, samples.least_quorums(book, kind, order))
        self.assertEqual(len(found), len(set(found)))
        self.assertEqual(set(found), least)
        self.assertTrue(all(set(one) & set(other) for one in least for other in least_blocks))
        for bits, crowd in enumerate(crowds):
            self.assertIs(crowd_holds(book, kind, order, crowd), table[bits])
            self.assertIs(is_least_quorum(book, kind, order, crowd), crowd in least)
            self.assertIs(is_least_block(book, kind, order, crowd), crowd in least_blocks)
            self.assertEqual(crowd_holds(book.dual(), kind, order, crowd), blocks[bits])
            expected = tuple(number for number in range(many) if table[bits] != table[bits ^ 1 << number])
            self.assertEqual(pivots(book, kind, order, crowd), expected)
            self.look_at_verdicts(book, kind, order, crowd, table[bits], least, least_blocks)
        self.look_at_shares(book, kind, order, table)

    def look_at_verdicts(self, book, kind, order, crowd, holds, least, least_blocks):
        if holds:
            quorum = least_quorum_in(book, kind, order, crowd)
            self.assertIn(quorum, least)
            self.assertLessEqual(set(quorum), set(crowd))
        else:
            with self.assertRaises(NoQuorum) as caught:
                least_quorum_in(book, kind, order, crowd)
            self.assertIs(caught.exception.sought, kind)
        word, seats = verdict(book, kind, order, crowd)
        self.assertEqual(word, "holds" if holds else "lacks")
        self.assertIs(is_verdict(book, kind, order, crowd, (word, seats)), True)
        self.assertIn(seats, least if holds else least_blocks)

    def look_at_shares(self, book, kind, order, table):
        many = book.width ** order
        expected = {
            number: sum(not table[bits] and table[bits | 1 << number]
                        for bits in range(2 ** many) if not bits >> number & 1)
            for number in range(many)
        }
        found = shares(book, kind, order)
        self.assertEqual(found, expected)
        self.assertEqual(list(found), list(range(many)))

    def test_all_verdicts(self):
        for book in (MAJ, TREE, FREE, samples.ROWS, samples.ODD):
            order = 2 if book.width == 2 else 1
            for kind in book:
                crowds = samples.crowds(book.width, order)
                least = set(samples.least_quorums(book, kind, order))
                blocks = set(samples.least_quorums(book.dual(), kind, order))
                for crowd in crowds:
                    for seats in crowds:
                        is_quorum = seats in least and set(seats) <= set(crowd)
                        is_block = seats in blocks and not set(seats) & set(crowd)
                        self.assertIs(is_verdict(book, kind, order, crowd, ("holds", seats)), is_quorum)
                        self.assertIs(is_verdict(book, kind, order, crowd, ("lacks", seats)), is_block)

    def test_what_all_quorums_share(self):
        for book in (MAJ, TREE, FREE):
            for kind in book:
                least = [set(one) for one in samples.least_quorums(book, kind, 2)]
                for crowd in samples.crowds(3, 2)[::5]:
                    inside = [one for one in least if one <= set(crowd)]
                    if inside:
                        self.assertEqual(set(pivots(book, kind, 2, crowd)), set.intersection(*inside))


class HigherOrders(unittest.TestCase):
    """Orders with up to 4096 seats, each with many crowds and quorums."""

    LAST = {2: 12, 3: 7, 4: 6, 5: 5}

    def test_many_crowds(self):
        chosen = random.Random(31)
        for book in samples.books(sizes=(2, 6), seeds=1) + [MAJ, TREE, FREE]:
            for order in (3, self.LAST[book.width]):
                many = book.width ** order
                for size in (0, many // 3, many // 2, many - 2, many):
                    self.look(book, order, tuple(sorted(chosen.sample(range(many), size))))

    def look(self, book, order, crowd):
        held = held_kinds(book, order, crowd)
        seats = samples.seats_of(book.width, order, crowd)
        for kind in book:
            self.assertIs(kind in held, crowd_holds(book, kind, order, crowd))
            if order == 3:
                self.assertIs(kind in held, samples.holds(book, kind, order, seats))
            word, part = verdict(book, kind, order, crowd)
            self.assertEqual(word, "holds" if kind in held else "lacks")
            self.assertIs(is_verdict(book, kind, order, crowd, (word, part)), True)
            self.assertIs(is_least_quorum(book if kind in held else book.dual(), kind, order, part), True)
            self.assertIs(is_least_quorum(book if kind in held else book.dual(), kind, order, part[1:]), False)
            moved = pivots(book, kind, order, crowd)
            for number in moved[:3]:
                other = tuple(sorted(set(crowd) ^ {number}))
                self.assertIs(crowd_holds(book, kind, order, other), kind not in held)
            self.assertEqual(moved, tuple(sorted(set(moved))))

    def test_each_least_in_its_order(self):
        for book, kind, order in ((MAJ, "a", 3), (TREE, "t", 3), (TREE, "t", 4), (FREE, "g", 3), (FREE, "r", 5),
                                  (samples.ROWS, "o", 7)):
            self.assertEqual(list(each_least(book, kind, order)), samples.least_quorums(book, kind, order))

    def test_each_least_of_books_with_unlike_kinds(self):
        for book in samples.books(sizes=(2, 4), seeds=3):
            for kind in book:
                expected = samples.least_quorums(book, kind, 2)
                self.assertEqual(list(each_least(book, kind, 2)), expected)

    def test_the_first_quorums_come_at_once(self):
        start = time.process_time()
        for book in samples.books(sizes=(1, 6), seeds=2) + [MAJ, TREE]:
            order = self.LAST[book.width]
            for kind in book:
                for quorum in itertools.islice(each_least(book, kind, order), 40):
                    self.assertIs(is_least_quorum(book, kind, order, quorum), True)
        self.assertLess(time.process_time() - start, 20)

    def test_as_many_quorums_as_seats(self):
        single = Book.from_lines("width 2", "kind a of a a least 0 1")
        self.assertEqual(list(each_least(single, "a", 12)), [(number,) for number in range(4096)])
        self.assertEqual(list(each_least(single.dual(), "a", 12)), [tuple(range(4096))])

    def test_an_unused_place_has_no_seat_in_a_least_quorum(self):
        book = Book.from_lines("width 3", "kind a of a b b least 0 1", "kind b of b b b least 01")
        self.assertEqual(list(each_least(book, "a", 2)), [(0,), (1,), (3, 4)])
        self.assertEqual(pivots(book, "a", 2, ()), (0, 1))


NO_CROWDS = tuple(value for value in samples.VALUES if value != (0,)) + (
    (9,), (-1,), (0, 9), (1, 0), (0, 0), (True,), (0, True), [0], [], "0", {0: 1}, (0, None), ((0,),), (10 ** 400,),
)


class Wrong(Refusal, unittest.TestCase):
    GOOD = {"book": MAJ, "kind": "a", "order": 2, "crowd": (0, 1, 3, 4), "value": None}
    WRONG = {
        "book": (samples.NO_BOOKS, InvalidBook),
        "kind": (samples.NO_KINDS, UnknownName),
        "order": (samples.NO_ORDERS, InvalidNumber),
        "crowd": (NO_CROWDS, InvalidOperation),
    }
    CALLS = (
        (crowd_holds, ("book", "kind", "order", "crowd")),
        (held_kinds, ("book", "order", "crowd")),
        (is_least_quorum, ("book", "kind", "order", "value")),
        (is_least_block, ("book", "kind", "order", "value")),
        (least_quorum_in, ("book", "kind", "order", "crowd")),
        (first_of(each_least), ("book", "kind", "order")),
        (verdict, ("book", "kind", "order", "crowd")),
        (is_verdict, ("book", "kind", "order", "crowd", "value")),
        (pivots, ("book", "kind", "order", "crowd")),
        (shares, ("book", "kind", "order")),
    )

    def test_too_many_seats_come_behind_and_ahead_of_crowds(self):
        for book, last in ((samples.ROWS, 12), (MAJ, 7), (samples.ODD, 6), (samples.random_book(5, 2, 1), 5)):
            kind = book.kinds[0]
            for order in (last + 1, 13, 200):
                for function, kinds in self.CALLS:
                    if function is shares:
                        continue
                    given = {"book": book, "kind": kind, "order": order, "value": None}
                    for crowd in ((), (0,), None, (True,)):
                        values = [given.get(name, crowd) for name in kinds]
                        self.refused(function, values, TooMany, 4096)
                        if "kind" in kinds:
                            values[1] = "?"
                            self.refused(function, values, UnknownName, "?")
                        values[0] = None
                        self.refused(function, values, InvalidBook)
            self.assertEqual(held_kinds(book, last, tuple(range(book.width ** last))), book.kinds)

    def test_too_many_seats_for_shares(self):
        for book, last in ((samples.ROWS, 3), (MAJ, 2), (samples.ODD, 1), (samples.random_book(5, 2, 1), 1)):
            kind = book.kinds[0]
            self.assertEqual(len(shares(book, kind, last)), book.width ** last)
            for order in (last + 1, 7, 13, 200):
                self.refused(shares, (book, kind, order), TooMany, 9)

    def test_no_quorum_comes_last(self):
        self.refused(least_quorum_in, (MAJ, "a", 2, ()), NoQuorum, "a")
        self.refused(least_quorum_in, (MAJ, "a", 8, ()), TooMany, 4096)
        self.refused(least_quorum_in, (MAJ, "a", 2, (9,)), InvalidOperation)

    def test_a_generator_raises_when_its_first_result_is_asked_for(self):
        for values in ((None, "a", 1), (MAJ, "b", 1), (MAJ, "a", -1), (MAJ, "a", 8)):
            each_least(*values)

    def test_judged_values(self):
        crowd = (0, 1, 3, 4)
        shapes = NO_CROWDS + ((), (0, 1, 3), (0, 1, 3, 4, 5), (0, 1, 3, True), [0, 1, 3, 4])
        for value in shapes:
            self.assertIs(is_least_quorum(MAJ, "a", 2, value), False)
            self.assertIs(is_least_block(MAJ, "a", 2, value), False)
            for word in ("holds", "lacks", None, "", "Holds", value):
                for row in ((word, value), (value, word), (word, crowd, value), (word,), [word, crowd], value):
                    self.assertIs(is_verdict(MAJ, "a", 2, crowd, row), False)
        self.assertIs(is_verdict(MAJ, "a", 2, crowd, ("holds", crowd)), True)
        self.assertIs(is_verdict(MAJ, "a", 2, crowd, ["holds", crowd]), False)
        self.assertIs(is_verdict(MAJ, "a", 2, crowd, ("lacks", crowd)), False)
        self.assertIs(is_verdict(MAJ, "a", 2, crowd, ("holds", crowd, ())), False)


if __name__ == "__main__":
    unittest.main()
