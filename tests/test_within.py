"""Being within against plain looks at all least quorums and all pairs: points 0.14, 0.15, 0.18 and 11.1."""

import functools
import itertools
import random
import time
import unittest

from grownquorums.books.books import Book
from grownquorums.decide import within as module
from grownquorums.decide.meets import meets_at
from grownquorums.decide.within import (
    MAX_FALLS, Inclusion, fall_of, is_within, is_within_at, is_within_paper, parting_camp, within_paper,
)
from grownquorums.errors import InvalidBook, InvalidNumber, TooMany, UnknownName
from grownquorums.seats.camps import holding_orders, holds_at
from tests import plain, samples
from tests.refusal import Refusal
from tests.samples import FREE, MAJ, ODD, ROWS, TREE
from tests.test_meets import LONG

OTHER_FORM = {"within": "apart", "apart": "within"}


def near_book(book, seed):
    """A book with like rules: some rows and families are exchanged."""
    chosen = random.Random(repr((book.lines, seed, "near")))
    rules = book.rules
    for kind in book:
        if chosen.random() < 0.3:
            rules[kind] = rules[chosen.choice(book.kinds)]
    return Book(book.width, rules)


@functools.lru_cache(maxsize=None)
def late_books():
    """Pairs of books with kinds that seldom fall at once: the rules of the second hold whatever those of the first do."""
    chosen = random.Random(111)
    found = []
    for width in (2, 3, 4, 5):
        for many in (2, 3, 4, 6) * 2:
            kinds = chosen.sample(samples.LETTERS, many)
            one, other = {}, {}
            for kind in kinds:
                rule = samples.random_rule(width, kinds, chosen)
                row = tuple(made if chosen.random() < 0.8 else chosen.choice(kinds) for made in rule.row)
                more = rule.family
                if chosen.random() < 0.4:
                    more = plain.family_of(width, plain.table_of(width, [*more, chosen.choice(plain.all_sets(width))]))
                one[kind] = rule
                other[kind] = type(rule)(row, more)
            found.append((Book(width, one), Book(width, other)))
    return found


@functools.lru_cache(maxsize=None)
def pairs_of_books():
    books = [MAJ, TREE, FREE, ROWS, ODD, LONG] + samples.books(sizes=(1, 2, 3), seeds=2)
    found = [(book, book) for book in books] + [(book, book.dual()) for book in books]
    found += [(book, near_book(book, 1)) for book in books]
    found += [(MAJ, TREE), (TREE, MAJ), (FREE, TREE), (LONG, FREE), (MAJ, LONG)] + late_books()
    found += [(samples.random_book(width, 2, 7), samples.random_book(width, 3, 8)) for width in plain.WIDTHS]
    return found


def all_pairs(one, other):
    return list(itertools.product(one.kinds, other.kinds))


def kept(one, other, pair, least, pairs):
    """The places of a set at which the pair of kinds is among these."""
    rows = one.rules[pair[0]].row, other.rules[pair[1]].row
    return {place for place in least if (rows[0][place], rows[1][place]) in pairs}


def has_set(rule, places):
    return any(set(least) <= set(places) for least in rule.family)


def plain_falls(one, other):
    """The least orders at which pairs are not within, order by order, by point 0.14."""
    pairs, falls = set(all_pairs(one, other)), {}
    for order in range(1, 60):
        still = {pair for pair in pairs if all(
            has_set(other.rules[pair[1]], kept(one, other, pair, least, pairs)) for least in one.rules[pair[0]].family)}
        falls.update({pair: order for pair in pairs - still})
        pairs = still
    return {pair: falls[pair] for pair in sorted(falls)}


class Example(unittest.TestCase):
    def test_the_examples_of_the_document(self):
        self.assertEqual(
            [is_within(TREE, TREE, "t", "t"), is_within(FREE, FREE, "w", "g"), fall_of(FREE, FREE, "g", "w"),
             fall_of(FREE, FREE, "w", "g")],
            [True, True, 1, None])
        self.assertEqual(
            [is_within(MAJ, TREE, "a", "t"), fall_of(MAJ, TREE, "a", "t"), fall_of(TREE, TREE, "s", "t"),
             Inclusion(FREE, FREE).pairs],
            [False, 2, 1, (("g", "g"), ("g", "r"), ("r", "r"), ("w", "g"), ("w", "r"), ("w", "w"))])
        self.assertEqual(
            [Inclusion(MAJ, TREE).falls, Inclusion(MAJ, TREE).rounds, Inclusion(MAJ, TREE).held_at(1),
             Inclusion(MAJ, MAJ).rounds],
            [{("a", "s"): 1, ("a", "t"): 2}, 2, (("a", "t"),), 0])
        camp = parting_camp(MAJ, TREE, "a", "t")
        self.assertEqual(
            [holds_at(MAJ, "a", camp, 50), holds_at(TREE, "t", camp, 50),
             is_within_paper(FREE, FREE, "g", "w", ("apart", ((1, "g", "w", (0, 1)),)))],
            [True, False, True])
        self.assertEqual(
            [within_paper(TREE, TREE, "s", "s")[0], str(Inclusion(TREE, TREE)), parting_camp(TREE, TREE, "t", "t")],
            ["within", "2 of 4 pairs within", None])

    def test_constants_and_names(self):
        self.assertEqual(MAX_FALLS, 24)
        for name in ("is_within is_within_at fall_of Inclusion within_paper is_within_paper parting_camp").split():
            self.assertEqual(getattr(module, name).__module__, "grownquorums.decide.within")
        for name in "one other pairs falls rounds held_at __contains__ __len__ __iter__ __eq__ __str__".split():
            self.assertIn(name, vars(Inclusion))


class LowOrders(unittest.TestCase):
    def test_all_least_quorums_of_both(self):
        found = {True: 0, False: 0}
        for one, other in pairs_of_books():
            for order in range(3 if one.width < 4 else 2):
                for a in one:
                    lists = samples.least_quorums(one, a, order) if order < 2 or len(one[a]) < 6 else []
                    if not 0 < len(lists) <= 150:
                        continue
                    quorums = [samples.seats_of(one.width, order, crowd) for crowd in lists]
                    for b in other:
                        expected = all(samples.holds(other, b, order, quorum) for quorum in quorums)
                        found[expected] += 1
                        self.assertIs(is_within_at(one, other, a, b, order), expected)
                        if order < 2:
                            least = [set(crowd) for crowd in samples.least_quorums(other, b, order)]
                            self.assertEqual(expected, all(any(q <= set(crowd) for q in least) for crowd in lists))
        self.assertGreater(min(found.values()), 100)

    def test_a_pair_meets_as_one_is_within_the_other_of_the_dual_book(self):
        for book in [MAJ, TREE, FREE, ROWS, ODD, LONG] + samples.books(sizes=(2, 3), seeds=2):
            dual = book.dual()
            for a, b in all_pairs(book, book):
                group = tuple(sorted((a, b)))
                for order in list(range(8)) + [10 ** 50]:
                    self.assertIs(is_within_at(book, dual, a, b, order), meets_at(book, group, order))


class AllOrders(unittest.TestCase):
    def test_order_by_order(self):
        unlike = set()
        for one, other in pairs_of_books():
            falls = plain_falls(one, other)
            unlike |= set(falls.values())
            for a, b in all_pairs(one, other):
                fall = falls.get((a, b))
                self.assertEqual(fall_of(one, other, a, b), fall)
                self.assertIs(is_within(one, other, a, b), fall is None)
                for order in (0, 1, 2, 3, 7, 60, 10 ** 50, 10 ** 400 - 1):
                    self.assertIs(is_within_at(one, other, a, b, order), fall is None or order < fall)
                if fall is not None:
                    self.assertIs(is_within_at(one, other, a, b, fall - 1), True)
                    self.assertLessEqual(fall, len(one) * len(other))
            self.look_at_inclusion(one, other, falls)
        self.assertLessEqual({1, 2, 3, 4, 5, 6}, unlike)

    def look_at_inclusion(self, one, other, falls):
        inclusion = Inclusion(one, other)
        every = all_pairs(one, other)
        pairs = tuple(pair for pair in every if pair not in falls)
        self.assertEqual((inclusion.one, inclusion.other), (one, other))
        self.assertEqual(inclusion.pairs, pairs)
        self.assertEqual(inclusion.falls, falls)
        self.assertEqual(list(inclusion.falls), sorted(falls))
        self.assertEqual(inclusion.rounds, max(falls.values(), default=0))
        self.assertEqual((len(inclusion), list(inclusion)), (len(pairs), list(pairs)))
        self.assertEqual(str(inclusion), f"{len(pairs)} of {len(every)} pairs within")
        for pair in every:
            self.assertIs(pair in inclusion, pair in pairs)
        for order in list(range(9)) + [200, 10 ** 50, 10 ** 400 - 1]:
            expected = tuple(pair for pair in every if falls.get(pair, order + 1) > order)
            self.assertEqual(inclusion.held_at(order), expected)


def plain_paper(one, other, pair, value):
    """Point 11.1 word by word, for values of the right form."""
    word, rows = value
    if any(not low < high for low, high in zip(rows, rows[1:])):
        return False
    if word == "within":
        return pair in rows and all(
            has_set(other.rules[b], kept(one, other, (a, b), least, rows))
            for a, b in rows for least in one.rules[a].family)
    pairs = [(a, b) for _, a, b, _ in rows]
    if pair not in pairs or len(set(pairs)) < len(pairs):
        return False
    for order, a, b, least in rows:
        sooner = {(x, y) for other_order, x, y, _ in rows if other_order < order}
        left = set(least) - kept(one, other, (a, b), least, sooner)
        if has_set(other.rules[b], left):
            return False
    return True


class Papers(unittest.TestCase):
    def test_papers_of_both_forms(self):
        for one, other in pairs_of_books():
            falls = plain_falls(one, other)
            for pair in all_pairs(one, other):
                paper = within_paper(one, other, *pair)
                self.assertEqual(paper[0], "apart" if pair in falls else "within")
                self.assertIs(is_within_paper(one, other, *pair, paper), True)
                self.assertIs(plain_paper(one, other, pair, paper), True)
                self.assertIs(is_within_paper(one, other, *pair, (OTHER_FORM[paper[0]], paper[1])), False)
                if pair in falls:
                    self.assertEqual([row[0] for row in paper[1] if row[1:3] == pair], [falls[pair]])
                    self.assertLessEqual(max(row[0] for row in paper[1]), len(one) * len(other))

    def test_papers_made_otherwise(self):
        for one, other in pairs_of_books():
            falls = plain_falls(one, other)
            every = all_pairs(one, other)
            closed = tuple(pair for pair in every if pair not in falls)
            rows = []
            for pair, fall in falls.items():
                sooner = {lower for lower in falls if falls[lower] < fall}
                right = [least for least in one.rules[pair[0]].family if not has_set(
                    other.rules[pair[1]], set(least) - kept(one, other, pair, least, sooner))]
                rows.append((fall, *pair, right[-1]))
            great = tuple(sorted((10 ** 399 * 3 + order, *row) for order, *row in rows))
            for pair in every:
                self.assertIs(is_within_paper(one, other, *pair, ("within", closed)), pair in closed)
                self.assertIs(is_within_paper(one, other, *pair, ("within", tuple(every))), not falls)
                for some in (tuple(sorted(rows)), great):
                    self.assertIs(is_within_paper(one, other, *pair, ("apart", some)), pair in falls)
                self.assertIs(is_within_paper(one, other, *pair, ("apart", closed)), False)

    def bent(self, one, other, paper, chosen):
        """Papers with one thing left out, put in or exchanged."""
        word, rows = paper
        every = all_pairs(one, other)
        for at, row in enumerate(rows):
            yield word, rows[:at] + rows[at + 1:]
            yield word, rows[:at + 1] + rows[at:]
            yield word, rows[:at] + rows[at:at + 2][::-1] + rows[at + 2:]
            pair = chosen.choice(every)
            if word == "within":
                yield word, tuple(sorted({*rows, pair}))
                yield word, tuple(sorted({*rows[:at], *rows[at + 1:], pair}))
                continue
            order, a, b, least = row
            news = [(further, a, b, least) for further in (order - 1, order + 1, 1, 10 ** 30) if further]
            news += [(order, *pair, chosen.choice(one[pair[0]].family))]
            news += [(order, a, b, chosen.choice(one[a].family)) for _ in range(3)]
            for new in news:
                yield word, tuple(sorted([*rows[:at], new, *rows[at + 1:]]))
                yield word, tuple(sorted([*rows, new]))

    def test_bent_papers(self):
        chosen = random.Random(112)
        found = {True: 0, False: 0}
        for one, other in pairs_of_books():
            for pair in all_pairs(one, other)[:16]:
                for value in self.bent(one, other, within_paper(one, other, *pair), chosen):
                    expected = plain_paper(one, other, pair, value)
                    found[expected] += 1
                    self.assertIs(is_within_paper(one, other, *pair, value), expected, (one.lines, other.lines, value))
        self.assertGreater(min(found.values()), 1000)

    def test_values_that_are_no_papers(self):
        row = (1, "a", "s", (1, 2))
        last = (2, "a", "t", (0, 1))
        self.assertIs(is_within_paper(MAJ, TREE, "a", "t", ("apart", (row, last))), True)
        wrong = (
            (True, "a", "s", (1, 2)), (0, "a", "s", (1, 2)), (-1, "a", "s", (1, 2)), ("1", "a", "s", (1, 2)),
            (None, "a", "s", (1, 2)), (10 ** 400, "a", "s", (1, 2)), (1, "a", "s"), (1, "a", "s", (1, 2), 0),
            (1, "s", "a", (1, 2)), (1, "a", "z", (1, 2)), (1, "z", "s", (1, 2)), (1, None, "s", (1, 2)),
            (1, "a", ["s"], (1, 2)), (1, "a", "s", (1,)), (1, "a", "s", (0, 1, 2)), (1, "a", "s", (2, 1)),
            (1, "a", "s", (True, 2)), (1, "a", "s", [1, 2]), (1, "a", "s", "12"), (1, "a", "s", None),
            (1, "a", "s", ()), (1, "a", "s", (1, 3)), [1, "a", "s", (1, 2)], None, "", (), 1, {1: 2}, MAJ,
            ("a", "s"), (1, ("a", "s"), (1, 2)), ((1,), "a", "s", (1, 2)), (1, "a", "s", (1, None)),
            (1, "a", "s", ((1,), 2)), (1, "as", "", (1, 2)),
        )
        for value in wrong:
            for rows in ((value, last), (row, last, value), (value, row, last), (value,), [row, last], value):
                for word in ("apart", "within"):
                    self.assertIs(is_within_paper(MAJ, TREE, "a", "t", (word, rows)), False)
        good = (("s", "s"), ("t", "t"))
        self.assertIs(is_within_paper(TREE, TREE, "t", "t", ("within", good)), True)
        for value in wrong[:-1] + (("t",), ("t", "t", "t"), ["t", "t"], "tt", ("s", "z"), ("z", "s"), ("t", "s"), (1, 2)):
            for rows in (good + (value,), (value,) + good, (good[0], value), (value,), (), list(good), value):
                self.assertIs(is_within_paper(TREE, TREE, "t", "t", ("within", rows)), False)
        for value in samples.VALUES + (
                ("within",), ("within", good, ()), ["within", good], ("within", None), ("apart", ()), ("apart", None),
                ("Within", good), ("", good), (None, good), (("within",), good), (good, "within"), (0, good)):
            self.assertIs(is_within_paper(TREE, TREE, "t", "t", value), False)

    def test_one_row_for_each_pair(self):
        rows = ((1, "a", "s", (1, 2)), (2, "a", "t", (0, 1)))
        for more in ((1, "a", "s", (1, 2)), (2, "a", "s", (1, 2)), (3, "a", "t", (0, 1)), (2, "a", "t", (0, 2))):
            value = ("apart", tuple(sorted(rows + (more,))))
            self.assertIs(is_within_paper(MAJ, TREE, "a", "t", value), False)
        # A pair falls by those of lesser orders only.
        for order in (1, 2):
            value = ("apart", tuple(sorted([(2, "a", "s", (1, 2)), (order, "a", "t", (0, 1))])))
            self.assertIs(is_within_paper(MAJ, TREE, "a", "t", value), False)
        self.assertIs(is_within_paper(
            MAJ, TREE, "a", "t", ("apart", ((2, "a", "s", (1, 2)), (3, "a", "t", (0, 1))))), True)


class Camps(unittest.TestCase):
    def test_from_the_least_order_on(self):
        greatest = 0
        for one, other in pairs_of_books():
            falls = plain_falls(one, other)
            for a, b in all_pairs(one, other):
                fall = falls.get((a, b))
                if fall is None:
                    self.assertIsNone(parting_camp(one, other, a, b))
                    continue
                if len(falls) > 24:
                    continue
                camp = parting_camp(one, other, a, b)
                greatest = max(greatest, len(camp))
                self.assertEqual(camp.width, one.width)
                self.assertLessEqual(set(range(fall, 201)), set(holding_orders(one, a, camp, 201)))
                self.assertLessEqual(set(holding_orders(other, b, camp, 201)), set(range(fall)))
        self.assertGreater(greatest, 6)

    def test_order_by_order(self):
        late = LONG.part("d")
        for one, other, a, b in ((MAJ, TREE, "a", "t"), (FREE, FREE, "g", "w"), (late, late.dual(), "d", "d"),
                                 (late, late.dual(), "b", "d"), (ROWS, ROWS, "o", "u")):
            camp = parting_camp(one, other, a, b)
            for order in range(fall_of(one, other, a, b), 201):
                self.assertIs(holds_at(one, a, camp, order), True)
                self.assertIs(holds_at(other, b, camp, order), False)

    def unlike_books(self, many, others):
        """Books of which no kind of the one is within one of the other."""
        kinds, more = samples.LETTERS[:many], samples.LETTERS[:others]
        row, wide = " ".join(kinds[at % many] for at in range(3)), " ".join(more[at % others] for at in range(3))
        one = Book.from_lines("width 3", *[f"kind {kind} of {row} least 0 1 2" for kind in kinds])
        return one, Book.from_lines("width 3", *[f"kind {kind} of {wide} least 012" for kind in more])

    def test_with_more_than_24_pairs_there_is_none(self):
        one, other = self.unlike_books(4, 6)
        self.assertEqual(len(Inclusion(one, other).falls), 24)
        self.assertIs(holds_at(one, "d", parting_camp(one, other, "d", "f"), 10), True)
        for many, others in ((5, 5), (6, 5), (5, 6), (6, 6)):
            one, other = self.unlike_books(many, others)
            with self.assertRaises(TooMany) as caught:
                parting_camp(one, other, "a", "b")
            self.assertIs(type(caught.exception), TooMany)
            self.assertEqual(caught.exception.limit, 24)
        # What is within is told first, however many pairs are not.
        one, other = self.unlike_books(6, 6)
        self.assertIsNone(parting_camp(other, one, "a", "b"))
        crowded = Book.from_lines(*[
            line.replace("012", "0 1 2") if line.startswith("kind f") else line for line in other.lines])
        self.assertGreater(len(Inclusion(one, crowded).falls), 24)
        self.assertIsNone(parting_camp(crowded, one, "f", "a"))

    def test_pairs_that_are_not_needed_count_as_well(self):
        lines = [f"kind {kind} of {kind} {kind} {kind} least 0 1 2" for kind in "abcde"]
        one = Book.from_lines("width 3", *lines)
        other = Book.from_lines("width 3", *[line.replace("0 1 2", "012") for line in lines])
        self.assertEqual(len(Inclusion(one, other).falls), 25)
        self.assertRaises(TooMany, parting_camp, one, other, "a", "a")
        self.assertIsNotNone(parting_camp(one.without("e"), other, "a", "a"))


class Quick(unittest.TestCase):
    def test_books_of_six_kinds_of_width_5(self):
        chosen = random.Random(113)
        start = time.process_time()
        for family in ("012 013 014 023 024 034 123 124 134 234", "01 02 03 04 12 13 14 23 24 34"):
            for _ in range(10):
                rows = [f"kind {kind} of {' '.join(chosen.choices('abcdef', k=5))} least" for kind in "abcdef"]
                one = Book.from_lines("width 5", *[f"{row} {family}" for row in rows])
                other = Book.from_lines("width 5", *[
                    f"{row} {plain.text_of(samples.random_family(5, chosen))}" for row in rows])
                for first, second in ((one, one), (one, other), (other, one), (other, other)):
                    self.assertEqual(len(Inclusion(first, second)) + len(Inclusion(first, second).falls), 36)
                    paper = within_paper(first, second, "a", "b")
                    self.assertIs(is_within_paper(first, second, "a", "b", paper), True)
        self.assertLess(time.process_time() - start, 5)


NO_OTHERS = samples.NO_BOOKS + (ROWS, ODD, samples.random_book(5, 2, 1))


class Wrong(Refusal, unittest.TestCase):
    GOOD = {"one": MAJ, "other": MAJ, "a": "a", "b": "a", "any order": 10 ** 50, "value": None}
    WRONG = {
        "one": (samples.NO_BOOKS, InvalidBook),
        "other": (NO_OTHERS, InvalidBook),
        "a": (samples.NO_KINDS, UnknownName),
        "b": (samples.NO_KINDS, UnknownName),
        "any order": (plain.ODD_VALUES + plain.LONG_INTEGERS + (
            True, False, -1, 1 - 10 ** 400, "0", (0,), [0]), InvalidNumber),
    }
    CALLS = (
        (is_within, ("one", "other", "a", "b")),
        (is_within_at, ("one", "other", "a", "b", "any order")),
        (fall_of, ("one", "other", "a", "b")),
        (Inclusion, ("one", "other")),
        (Inclusion(FREE, FREE).held_at, ("any order",)),
        (within_paper, ("one", "other", "a", "b")),
        (is_within_paper, ("one", "other", "a", "b", "value")),
        (parting_camp, ("one", "other", "a", "b")),
    )

    def test_each_kind_is_looked_up_in_its_own_book(self):
        for function in (is_within, fall_of, within_paper, parting_camp):
            self.refused(function, (MAJ, TREE, "t", "a"), UnknownName, "t")
            self.refused(function, (MAJ, TREE, "a", "a"), UnknownName, "a")
            function(MAJ, TREE, "a", "t")

    def test_books_of_another_width(self):
        for function in (is_within, fall_of, within_paper, parting_camp):
            for one, other in ((MAJ, ROWS), (ROWS, MAJ), (ODD, MAJ)):
                self.refused(function, (one, other, "?", "?"), InvalidBook)
                self.refused(Inclusion, (one, other), InvalidBook)


class Kept(unittest.TestCase):
    def test_any_value_can_be_compared_and_sought(self):
        inclusion = Inclusion(FREE, FREE)
        for value in samples.VALUES + (inclusion.pairs, inclusion.falls, FREE, ("g",), ("g", "g", "g"), ["g", "g"]):
            self.assertIs(inclusion == value, False)
            self.assertIs(inclusion != value, True)
            self.assertIs(value in inclusion, False)
        self.assertEqual([value in inclusion for value in (("g", "r"), ("r", "g"), ("w", "w"), ("a", "a"))],
                         [True, False, True, False])

    def test_equal_books(self):
        same = Inclusion(Book.from_lines(*FREE.lines), Book.from_lines(*FREE.lines[::-1]))
        self.assertIs(Inclusion(FREE, FREE) == same, True)
        self.assertIs(Inclusion(FREE, FREE) != same, False)
        for other in (Inclusion(FREE, FREE.dual()), Inclusion(FREE.dual(), FREE), Inclusion(TREE, TREE)):
            self.assertIs(same == other, False)

    def test_inclusions_never_change(self):
        inclusion = Inclusion(MAJ, TREE)
        inclusion.falls.clear()
        self.assertEqual(inclusion.falls, {("a", "s"): 1, ("a", "t"): 2})
        for name in ("one", "other", "pairs", "falls", "rounds"):
            self.assertRaises(AttributeError, setattr, inclusion, name, ())


if __name__ == "__main__":
    unittest.main()
