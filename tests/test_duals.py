"""Likeness, duals and chains against plain looks at low orders: points 0.14, 0.18, 0.20 and 12.1."""

import functools
import itertools
import random
import unittest

from grownquorums.books.books import Book
from grownquorums.decide import duals as module
from grownquorums.decide.duals import (
    are_alike, chains_of, classes_of, is_better, open_camp, parting_order, standing, turns_of,
)
from grownquorums.decide.meets import falling_order, meets, meets_at
from grownquorums.decide.within import Inclusion, fall_of, is_within, is_within_at
from grownquorums.errors import InvalidBook, InvalidNumber, TooMany, UnknownName
from grownquorums.seats.camps import holding_orders, holds_at
from tests import plain, samples
from tests.refusal import Refusal
from tests.samples import FREE, MAJ, ODD, ROWS, TREE
from tests.test_meets import LONG
from tests.test_within import pairs_of_books, plain_falls

# The kinds a to c are alike, d is the seat at the first place, and e is as well.
MORE = Book.from_lines(
    "width 3", "kind a of b a c least 01 02 12", "kind b of a b b least 01 02 12", "kind c of b b a least 01 02 12",
    "kind d of d b a least 0", "kind e of d a e least 0")

# Both chains from w to r pass one of g and h, which are not within each other.
WIDE = Book.from_lines(
    "width 3", "kind g of w r r least 0 12", "kind h of r w r least 02 1", "kind r of r r r least 0 1 2",
    "kind w of w w w least 012", "kind m of m m m least 01 02 12")

# The kinds b, c and d stand as dual up to some order, and then as open.
LATE = Book.from_lines(
    "width 3", "kind a of a a a least 012", "kind b of a b b least 01 02 12", "kind c of b c c least 01 02 12",
    "kind d of c d d least 01 02 12")

# Kinds that stand as dual, as open and then as split, up to unlike orders.
TURNING = (
    (("kind a of a b a least 0 1 2", "kind b of a a b least 01"), "b", (1, 2)),
    (("kind a of c b a least 01", "kind b of a c b least 01 02 12", "kind c of b b b least 0 12"), "a", (1, 3)),
    (("kind a of b d b least 012", "kind b of d b a least 01 02 12", "kind c of b a a least 01 2",
      "kind d of b c a least 01 02 12"), "a", (1, 4)),
    (("kind a of c a b least 01 02", "kind b of a a a least 1", "kind c of b a c least 01 2"), "b", (2, 3)),
    (("kind a of d d d least 012", "kind b of a b c least 01 02 12", "kind c of c b c least 1",
      "kind d of b c d least 01 2"), "c", (3, 4)),
)
SPLIT = Book.from_lines("width 3", *TURNING[1][0])

FEW_FAMILIES = ("01", "0 1 2", "01 02 12", "012", "0", "0 12", "01 02", "1", "01 2")


def random_lines(many, seed):
    """The lines of a book of width 3 whose kinds are often within each other."""
    chosen = random.Random(repr((many, seed, "lines")))
    kinds = samples.LETTERS[:many]
    return ["width 3"] + [
        f"kind {kind} of {' '.join(chosen.choices(kinds, k=3))} least {chosen.choice(FEW_FAMILIES)}" for kind in kinds]


@functools.lru_cache(maxsize=None)
def ordered_books():
    return [Book.from_lines(*random_lines(many, seed)) for many in (3, 4, 5, 6) for seed in range(25)]


def dual_rows(width, seed):
    """A book whose families are nearly all their own duals."""
    chosen = random.Random(repr((width, seed, "dual")))
    kinds = chosen.sample(samples.LETTERS, 4)
    known = [family for family in samples.families(width)
             if plain.dual_table(width, plain.table_of(width, family)) == plain.table_of(width, family)]
    lines = [f"width {width}"]
    for at, kind in enumerate(kinds):
        family = chosen.choice(known if at else samples.families(width))
        row = " ".join(chosen.choices(kinds if at == 0 else kinds[:at + 1], k=width))
        lines.append(f"kind {kind} of {row} least {plain.text_of(family)}")
    return Book.from_lines(*lines)


@functools.lru_cache(maxsize=None)
def some_books():
    books = [MAJ, TREE, FREE, ROWS, ODD, LONG, MORE, WIDE, LATE, SPLIT] + samples.books(sizes=(1, 2, 3, 6), seeds=2)
    return books + [dual_rows(width, seed) for width in (3, 4, 5) for seed in range(5)]


class Example(unittest.TestCase):
    def test_the_examples_of_the_document(self):
        self.assertEqual(
            [are_alike(MAJ, TREE, "a", "s"), parting_order(MAJ, TREE, "a", "t"), classes_of(FREE), turns_of(MAJ, "a"),
             turns_of(TREE, "t"), turns_of(FREE, "r")],
            [False, 2, (("g",), ("r",), ("w",)), (None, None), (None, None), (1, 1)])
        self.assertEqual(
            [turns_of(FREE, "g"), turns_of(FREE, "w"), standing(FREE, "w", 3), standing(FREE, "g", 10 ** 30),
             chains_of(FREE), open_camp(MAJ, "a")],
            [(2, 2), (1, None), "open", "split", (("w", "g", "r"),), None])
        self.assertEqual(
            [is_better(FREE, "w", "g"), is_better(TREE, "s", "t"), open_camp(FREE, "w").size(1) in (1, 2),
             TREE.dual() == TREE],
            [False, False, True, True])

    def test_names(self):
        for name in ("are_alike parting_order classes_of turns_of standing open_camp is_better chains_of").split():
            self.assertEqual(getattr(module, name).__module__, "grownquorums.decide.duals")


class Alike(unittest.TestCase):
    def test_against_what_falls(self):
        found = set()
        for one, other in pairs_of_books():
            falls, backward = plain_falls(one, other), plain_falls(other, one)
            for a, b in itertools.product(one.kinds, other.kinds):
                orders = [fall for fall in (falls.get((a, b)), backward.get((b, a))) if fall is not None]
                expected = min(orders, default=None)
                found.add(expected)
                self.assertEqual(parting_order(one, other, a, b), expected)
                self.assertIs(are_alike(one, other, a, b), expected is None)
        self.assertLessEqual({None, 1, 2, 3}, found)

    def test_all_crowds_of_low_orders(self):
        for one, other in pairs_of_books():
            for order in range(3 if one.width == 2 else 2):
                tables = {kind: samples.table(one, kind, order) for kind in one}
                others = {kind: samples.table(other, kind, order) for kind in other}
                for a, b in itertools.product(one.kinds, other.kinds):
                    parted = parting_order(one, other, a, b)
                    self.assertIs(parted is None or order < parted, tables[a] == others[b])

    def test_classes(self):
        self.assertEqual(classes_of(MORE), (("a", "b", "c"), ("d", "e")))
        for book in some_books():
            classes = classes_of(book)
            self.assertEqual(sorted(kind for alike in classes for kind in alike), list(book.kinds))
            self.assertEqual(list(classes), sorted(classes))
            for alike in classes:
                self.assertEqual(list(alike), sorted(alike))
            for a, b in itertools.product(book.kinds, repeat=2):
                together = any(a in alike and b in alike for alike in classes)
                self.assertIs(together, are_alike(book, book, a, b))


class Standing(unittest.TestCase):
    def plain_standing(self, book, kind, order):
        """Point 12.1 by all crowds."""
        table = samples.table(book, kind, order)
        pairs = list(zip(table, table[::-1]))
        if any(held and rest for held, rest in pairs):
            return "split"
        return "dual" if all(held != rest for held, rest in pairs) else "open"

    def test_all_crowds_of_low_orders(self):
        found = set()
        for book in some_books():
            for kind in book:
                for order in range({2: 4, 3: 3}.get(book.width, 2)):
                    if order < 2 or book.width == 2 or len(book) < 4:
                        expected = self.plain_standing(book, kind, order)
                        found.add((order, expected))
                        self.assertEqual(standing(book, kind, order), expected)
        self.assertLessEqual({(order, word) for order in (1, 2) for word in ("dual", "open", "split")}, found)
        self.assertEqual({word for order, word in found if order == 0}, {"dual"})

    def test_meeting_and_being_within_the_dual(self):
        for book in some_books():
            dual = book.dual()
            for kind in book:
                turn, split = turns_of(book, kind)
                self.assertEqual(split, falling_order(book, (kind, kind)))
                self.assertEqual(split, fall_of(book, dual, kind, kind))
                for order in list(range(9)) + [10 ** 50, 10 ** 400 - 1]:
                    is_meeting = meets_at(book, (kind, kind), order)
                    is_holding = is_within_at(dual, book, kind, kind, order)
                    self.assertIs(is_meeting, is_within_at(book, dual, kind, kind, order))
                    expected = "split" if not is_meeting else "dual" if is_holding else "open"
                    self.assertEqual(standing(book, kind, order), expected)
                    self.assertIs(expected == "dual", turn is None or order < turn)
                    self.assertIs(expected == "split", split is not None and order >= split)

    def test_turns(self):
        self.assertEqual([turns_of(LATE, kind) for kind in LATE], [(1, None), (2, None), (3, None), (4, None)])
        for lines, kind, turns in TURNING:
            book = Book.from_lines("width 3", *lines)
            self.assertEqual(turns_of(book, kind), turns)
            self.assertEqual([standing(book, kind, order) for order in range(6)], [
                "dual" if order < turns[0] else "open" if order < turns[1] else "split" for order in range(6)])
        self.assertEqual([standing(LATE, "d", order) for order in (3, 4, 10 ** 400 - 1)], ["dual", "open", "open"])

    def test_a_family_that_is_its_own_dual_is_not_enough(self):
        self.assertEqual(FREE["g"].dual(), FREE["g"])
        self.assertEqual(standing(FREE, "g", 2), "split")


class Open(unittest.TestCase):
    def test_neither_it_nor_its_rest_holds(self):
        many = 0
        for book in some_books():
            dual = book.dual()
            falls = plain_falls(dual, book)
            for kind in book:
                fall = falls.get((kind, kind))
                if fall is None:
                    self.assertIsNone(open_camp(book, kind))
                    continue
                if len(falls) > 24:
                    with self.assertRaises(TooMany) as caught:
                        open_camp(book, kind)
                    self.assertEqual(caught.exception.limit, 24)
                    continue
                many += 1
                camp = open_camp(book, kind)
                for some in (camp, camp.rest()):
                    self.assertLessEqual(set(holding_orders(book, kind, some, 201)), set(range(fall)))
        self.assertGreater(many, 60)

    def test_order_by_order(self):
        for book, kind, least in ((LATE, "d", 4), (SPLIT, "a", 1), (FREE, "w", 1)):
            camp = open_camp(book, kind)
            self.assertEqual(fall_of(book.dual(), book, kind, kind), least)
            for order in range(least, 201):
                self.assertIs(holds_at(book, kind, camp, order), False)
                self.assertIs(holds_at(book, kind, camp.rest(), order), False)

    def test_the_least_order_is_that_of_the_first_such_set(self):
        for book in (LATE, SPLIT, FREE, WIDE, ROWS):
            for kind in book:
                for order in range(3):
                    table = samples.table(book, kind, order)
                    if any(not held and not rest for held, rest in zip(table, table[::-1])):
                        camp = open_camp(book, kind)
                        self.assertIs(holds_at(book, kind, camp, order), False)
                        self.assertIs(holds_at(book, kind, camp.rest(), order), False)
                    elif order == 2:
                        fall = fall_of(book.dual(), book, kind, kind)
                        self.assertIs(fall is None or fall > 2, True)


class Chains(unittest.TestCase):
    def test_better(self):
        found = {True: 0, False: 0}
        for book in some_books() + ordered_books():
            for a, b in itertools.product(book.kinds, repeat=2):
                expected = (is_within(book, book, a, b) and not are_alike(book, book, a, b)
                            and meets(book, (a, a)) and meets(book, (b, b)))
                found[expected] += 1
                self.assertIs(is_better(book, a, b), expected)
        self.assertGreater(found[True], 20)
        self.assertIs(is_better(WIDE, "w", "m"), True)
        self.assertIs(is_better(WIDE, "m", "w"), False)
        self.assertIs(is_better(MORE, "a", "b"), False)

    def test_what_is_within_what_meets_meets(self):
        for book in some_books() + ordered_books()[::4]:
            for a, b in itertools.product(book.kinds, repeat=2):
                if is_within(book, book, a, b):
                    for c in book:
                        if meets(book, tuple(sorted((b, c)))):
                            self.assertIs(meets(book, tuple(sorted((a, c)))), True)
                    if turns_of(book, a) == (None, None) and meets(book, (b, b)):
                        self.assertIs(are_alike(book, book, a, b), True)

    def plain_chains(self, book):
        """All rows of heads that ascend, of which none is a part of another one."""
        heads = [alike[0] for alike in classes_of(book)]
        pairs = Inclusion(book, book).pairs
        rows = [row for many in range(1, len(heads) + 1) for row in itertools.permutations(heads, many)
                if all(pair in pairs for pair in zip(row, row[1:]))]
        return tuple(sorted(row for row in rows if not any(set(row) < set(other) for other in rows)))

    def test_chains(self):
        self.assertEqual(chains_of(MAJ), (("a",),))
        self.assertEqual(chains_of(TREE), (("s",), ("t",)))
        self.assertEqual(chains_of(MORE), (("a",), ("d",)))
        self.assertEqual(chains_of(WIDE), (("w", "g", "r"), ("w", "h", "r"), ("w", "m", "r")))
        lengths = set()
        for book in some_books() + ordered_books():
            expected = self.plain_chains(book)
            lengths.add(tuple(sorted(len(chain) for chain in expected)))
            self.assertEqual(chains_of(book), expected)
        self.assertLessEqual({(1,), (1, 2), (1, 3), (2, 2), (2, 3), (3,), (4,), (1, 2, 2)}, lengths)


class Wrong(Refusal, unittest.TestCase):
    GOOD = {"one": MAJ, "other": MAJ, "a": "a", "b": "a", "book": MAJ, "kind": "a", "any order": 10 ** 50}
    WRONG = {
        "one": (samples.NO_BOOKS, InvalidBook),
        "other": (samples.NO_BOOKS + (ROWS, ODD), InvalidBook),
        "a": (samples.NO_KINDS, UnknownName),
        "b": (samples.NO_KINDS, UnknownName),
        "book": (samples.NO_BOOKS, InvalidBook),
        "kind": (samples.NO_KINDS, UnknownName),
        "any order": (plain.ODD_VALUES + plain.LONG_INTEGERS + (
            True, False, -1, 1 - 10 ** 400, "0", (0,), [0]), InvalidNumber),
    }
    CALLS = (
        (are_alike, ("one", "other", "a", "b")),
        (parting_order, ("one", "other", "a", "b")),
        (classes_of, ("book",)),
        (turns_of, ("book", "kind")),
        (standing, ("book", "kind", "any order")),
        (open_camp, ("book", "kind")),
        (is_better, ("book", "a", "b")),
        (chains_of, ("book",)),
    )

    def test_each_kind_is_looked_up_in_its_own_book(self):
        for function in (are_alike, parting_order):
            self.refused(function, (MAJ, TREE, "t", "a"), UnknownName, "t")
            self.refused(function, (MAJ, TREE, "a", "a"), UnknownName, "a")
        self.refused(open_camp, (LONG, "?"), UnknownName, "?")


if __name__ == "__main__":
    unittest.main()
