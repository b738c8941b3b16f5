"""What one part of the program tells agrees with what the others tell: points 0.15, 0.18, 0.19 and 0.20."""

import itertools
import random
import unittest
from fractions import Fraction

from grownquorums.books.books import Book
from grownquorums.decide.duals import are_alike, is_better, open_camp, standing, turns_of
from grownquorums.decide.meets import Meetings, falling_order, meeting_paper, meets, meets_at, split_at
from grownquorums.decide.overlaps import first_above, is_overlap_at_most, overlap, overlaps_upto
from grownquorums.decide.within import Inclusion, fall_of, is_within, is_within_at, parting_camp
from grownquorums.errors import Refused, TooMany
from grownquorums.measure.chances import chance
from grownquorums.measure.loads import load
from grownquorums.measure.sizes import (
    chosen_size, count_least, count_sizes, fewest_failures, greatest_size, least_size, light_choice,
)
from grownquorums.seats.camps import Camp, holds_at, pattern_of
from grownquorums.seats.systems import crowd_holds, each_least, held_kinds, least_quorum_in, shares, verdict
from grownquorums.text.shell import Shell
from grownquorums.text.texts import read_book, read_paper, write_book, write_paper
from grownquorums.use.changes import least_book, permuted_book, renamed_book
from grownquorums.use.council import Council, breaking_deeds
from tests import samples
from tests.samples import FREE, MAJ, ODD, ROWS, TREE
from tests.test_duals import MORE, SPLIT, WIDE, ordered_books
from tests.test_meets import LONG, falling_books

FEW_SEATS = {2: 3, 3: 2, 4: 1, 5: 1}
LAST_ORDERS = {2: 12, 3: 7, 4: 6, 5: 5}


def some_books():
    books = [MAJ, TREE, FREE, ROWS, ODD, LONG, MORE, SPLIT, WIDE] + samples.books(sizes=(1, 2, 3, 4, 5, 6), seeds=1)
    return books + ordered_books()[::10] + falling_books()[::3]


def pairs(book):
    return itertools.product(book.kinds, repeat=2)


class Meeting(unittest.TestCase):
    def test_meeting_overlaps_being_within_the_dual_splits_and_safe_pairs(self):
        found = {True: 0, False: 0}
        for book in some_books():
            dual = book.dual()
            for a, b in pairs(book):
                group = tuple(sorted((a, b)))
                overlaps = overlaps_upto(book, group, 9)
                for order in (0, 1, 2, FEW_SEATS[book.width]):
                    expected = meets_at(book, group, order)
                    found[expected] += 1
                    self.assertIs(overlaps[order] >= 1, expected)
                    self.assertIs(is_overlap_at_most(book, group, order, 0), not expected)
                    self.assertIs(is_within_at(book, dual, a, b, order), expected)
                    self.assertIs(split_at(book, group, order) is None, expected)
                    self.assertIs(breaking_deeds(book, order, a, b) is None, expected)
                    self.assertIs(self.is_made(book, order, a, b), expected)
        self.assertGreater(min(found.values()), 500)

    def is_made(self, book, order, reading, writing):
        try:
            Council(book, order, reading=reading, writing=writing)
        except Refused:
            return False
        return True

    def test_least_orders_of_failing(self):
        for book in some_books():
            meetings, inclusion = Meetings(book, 2), Inclusion(book, book.dual())
            for a, b in pairs(book):
                group = tuple(sorted((a, b)))
                fall = meetings.falls.get(group)
                self.assertEqual(falling_order(book, group), fall)
                self.assertEqual(inclusion.falls.get((a, b)), fall)
                self.assertEqual(fall_of(book, book.dual(), a, b), fall)
                self.assertEqual(meeting_paper(book, group)[0], "meet" if fall is None else "split")
                self.assertIs(meets(book, group), is_within(book, book.dual(), a, b))
                if fall is not None:
                    # What does not meet does not meet later.
                    self.assertEqual(set(overlaps_upto(book, group, fall + 6)[fall:]), {0})
                    self.assertGreater(min(overlaps_upto(book, group, fall - 1)), 0)

    def test_splits_and_parting_camps(self):
        for book in some_books():
            dual = book.dual()
            for a, b in pairs(book):
                fall = fall_of(book, dual, a, b)
                if fall is None or len(Inclusion(book, dual).falls) > 24:
                    continue
                camp = parting_camp(book, dual, a, b)
                # Its seats are a quorum of a, and its rest one of b, and they share none.
                for order in (fall, fall + 1, fall + 17, 10 ** 20):
                    try:
                        told = [holds_at(book, a, camp, order), holds_at(book, b, camp.rest(), order)]
                    except TooMany:
                        continue
                    self.assertEqual(told, [True, True])

    def test_triples(self):
        for book in some_books():
            for group in samples.groups(book, 3):
                fall = falling_order(book, group)
                below = [falling_order(book, pair) for pair in itertools.combinations(group, 2)]
                known = [order for order in below if order is not None]
                if known:
                    self.assertLessEqual(fall, min(known))
                for order in (0, 1, 2, 3):
                    least = min(overlap(book, pair, order) for pair in itertools.combinations(group, 2))
                    self.assertLessEqual(overlap(book, group, order), least)

    def test_overlaps_of_a_kind_with_itself_and_of_alike_kinds(self):
        for book in some_books():
            for a, b in pairs(book):
                group = tuple(sorted((a, b)))
                for order in (0, 1, 2, 5):
                    self.assertLessEqual(overlap(book, (a, a), order), least_size(book, a, order))
                    self.assertLessEqual(
                        overlap(book, group, order), min(least_size(book, a, order), least_size(book, b, order)))
                    if are_alike(book, book, a, b):
                        self.assertEqual(overlap(book, (a, a), order), overlap(book, group, order))


class Within(unittest.TestCase):
    def test_what_is_within_meets_all_that_the_other_meets(self):
        for book in some_books():
            for a, b in pairs(book):
                if is_within(book, book, a, b):
                    for c in book:
                        if meets(book, tuple(sorted((b, c)))):
                            self.assertIs(meets(book, tuple(sorted((a, c)))), True)
                    for order in (0, 1, 2, 3):
                        self.assertGreaterEqual(least_size(book, a, order), least_size(book, b, order))
                        self.assertLessEqual(fewest_failures(book, a, order), fewest_failures(book, b, order))
                        self.assertGreaterEqual(Fraction(*load(book, a, order)), Fraction(*load(book, b, order)))
                    for order in range(FEW_SEATS[book.width] + 1):
                        for up in ((1, 3), (1, 2), (9, 10)):
                            one, other = chance(book, a, order, up), chance(book, b, order, up)
                            self.assertLessEqual(Fraction(*one), Fraction(*other))

    def test_a_self_dual_kind_is_alike_to_what_it_is_within(self):
        found = 0
        for book in some_books():
            for a, b in pairs(book):
                if turns_of(book, a) == (None, None) and is_within(book, book, a, b) and meets(book, (b, b)):
                    found += a != b
                    self.assertIs(are_alike(book, book, a, b), True)
                    self.assertIs(is_better(book, a, b), False)
        self.assertGreater(found, 3)

    def test_standing_and_chances(self):
        for book in some_books():
            for kind in book:
                for order in range(FEW_SEATS[book.width] + 1):
                    word = standing(book, kind, order)
                    one = Fraction(*chance(book, kind, order, (1, 2)))
                    if word == "dual":
                        self.assertEqual(one, Fraction(1, 2))
                    if word == "open":
                        self.assertLess(one, Fraction(1, 2))
                    for up, down in (((1, 3), (2, 3)), ((1, 10), (9, 10))):
                        total = Fraction(*chance(book, kind, order, up)) + Fraction(*chance(book, kind, order, down))
                        if word == "dual":
                            self.assertEqual(total, 1)
                        if word == "open":
                            self.assertLess(total, 1)

    def test_a_kind_whose_family_is_its_own_dual_is_not_always_self_dual(self):
        self.assertEqual(FREE["g"].dual(), FREE["g"])
        self.assertEqual([standing(FREE, "g", order) for order in range(4)], ["dual", "dual", "split", "split"])


class Measures(unittest.TestCase):
    def test_sizes_failures_and_loads(self):
        for book in some_books():
            dual = book.dual()
            for kind in book:
                for order in (0, 1, 2, 3, 10, 40):
                    size, failures = least_size(book, kind, order), fewest_failures(book, kind, order)
                    self.assertEqual(failures, least_size(dual, kind, order))
                    self.assertEqual(size, fewest_failures(dual, kind, order))
                    self.assertLessEqual(size, greatest_size(book, kind, order))
                    share = Fraction(*load(book, kind, order))
                    # The seats of a least quorum are used, and so is one of each set that stops all.
                    self.assertGreaterEqual(share, Fraction(size, book.width ** order))
                    self.assertGreaterEqual(share, Fraction(1, failures))
                    self.assertEqual(chosen_size(book, kind, order, light_choice(book, order)), size)

    def test_numbers_of_quorums(self):
        for book in some_books():
            for kind in book:
                for order in range(FEW_SEATS[book.width] + 1):
                    sizes = count_sizes(book, kind, order)
                    self.assertEqual(sum(sizes.values()), count_least(book, kind, order))
                    self.assertEqual((min(sizes), max(sizes)),
                                     (least_size(book, kind, order), greatest_size(book, kind, order)))
                    if sum(sizes.values()) < 500:
                        crowds = list(each_least(book, kind, order))
                        self.assertEqual(len(crowds), sum(sizes.values()))
                        for crowd in crowds[::7]:
                            self.assertEqual(least_quorum_in(book, kind, order, crowd), crowd)
                            self.assertEqual(verdict(book, kind, order, crowd), ("holds", crowd))

    def test_chances_and_crowds(self):
        for book in some_books():
            for kind in book.kinds[:3]:
                for order in range(FEW_SEATS[book.width] + 1):
                    many = book.width ** order
                    if many > 8:
                        continue
                    holding = [crowd for crowd in samples.crowds(book.width, order)
                               if crowd_holds(book, kind, order, crowd)]
                    one = Fraction(*chance(book, kind, order, (1, 2)))
                    self.assertEqual(one * 2 ** many, len(holding))
                    # Seats that change much are those by which the chance rises.
                    told = sum(shares(book, kind, order).values())
                    up = Fraction(1, 10 ** 9)
                    rise = Fraction(*chance(book, kind, order, (5 * 10 ** 8 + 1, 10 ** 9))) - one
                    self.assertAlmostEqual(float(rise / up), told / 2 ** (many - 1), 5)

    def test_what_is_not_true(self):
        # Neither is the least size times the fewest failures at most the number of seats.
        found = []
        for book in some_books():
            for kind in book:
                for order in (1, 2, 3):
                    product = least_size(book, kind, order) * fewest_failures(book, kind, order)
                    found.append(product > book.width ** order)
        self.assertIn(True, found)
        # More quorums do not mean a better chance: r has fewer least ones than g has.
        self.assertLess(count_least(FREE, "r", 2), count_least(FREE, "g", 2))
        self.assertGreater(Fraction(*chance(FREE, "r", 2, (1, 2))), Fraction(*chance(FREE, "g", 2, (1, 2))))


class Camps(unittest.TestCase):
    def test_camps_crowds_and_duals(self):
        for at, book in enumerate(some_books()):
            camp = samples.random_camp(book.width, 1 + at % 6, at)
            dual = book.dual()
            for order in range(FEW_SEATS[book.width] + 2):
                if book.width ** order > 1000:
                    continue
                seats = samples.seats(book.width, order)
                crowd = tuple(number for number, seat in enumerate(seats) if seat in camp)
                self.assertEqual(camp.size(order), len(crowd))
                held = held_kinds(book, order, crowd)
                for kind in book:
                    self.assertIs(holds_at(book, kind, camp, order), kind in held)
                    self.assertIs(holds_at(dual, kind, camp.rest(), order), kind not in held)

    def test_patterns_of_dual_books(self):
        for at, book in enumerate(some_books()):
            camp = samples.random_camp(book.width, 1 + at % 4, at + 1)
            for kind in book:
                turn, period, orders = pattern_of(book, kind, camp)
                other = pattern_of(book.dual(), kind, camp.rest())
                self.assertEqual(other[:2], (turn, period))
                self.assertEqual(sorted(orders + other[2]), list(range(turn + period)))

    def test_open_camps_and_standing(self):
        for book in some_books():
            if len(Inclusion(book.dual(), book).falls) > 24:
                continue
            for kind in book:
                camp = open_camp(book, kind)
                words = [standing(book, kind, order) for order in range(12)]
                if camp is None:
                    self.assertNotIn("open", words)
                elif "open" in words:
                    for order in range(words.index("open"), 12):
                        self.assertIs(holds_at(book, kind, camp, order), False)
                        self.assertIs(holds_at(book, kind, camp.rest(), order), False)


class Changed(unittest.TestCase):
    def test_other_places_names_and_fewer_kinds_tell_the_same(self):
        chosen = random.Random(181)
        for book in some_books():
            letters = chosen.sample(samples.LETTERS, len(book))
            places = tuple(chosen.sample(range(book.width), book.width))
            names = dict(zip(book.kinds, letters))
            others = [(permuted_book(book, places), {kind: kind for kind in book}), (renamed_book(book, names), names)]
            least = least_book(book)
            heads = {kind: next(head for head in least if are_alike(book, book, kind, head)) for kind in book}
            others.append((least, heads))
            order = FEW_SEATS[book.width]
            for other, named in others:
                for kind in book:
                    name = named[kind]
                    for at in (0, 1, order, 30):
                        self.assertEqual(least_size(other, name, at), least_size(book, kind, at))
                        self.assertEqual(fewest_failures(other, name, at), fewest_failures(book, kind, at))
                        self.assertEqual(load(other, name, at), load(book, kind, at))
                    self.assertEqual(chance(other, name, order, (2, 7)), chance(book, kind, order, (2, 7)))
                    self.assertEqual(count_sizes(other, name, order), count_sizes(book, kind, order))
                    self.assertEqual(turns_of(other, name), turns_of(book, kind))
                for size in (2, 3):
                    for group in samples.groups(book, size)[::3]:
                        same = tuple(sorted(named[kind] for kind in group))
                        self.assertEqual(falling_order(other, same), falling_order(book, group))
                        self.assertEqual(first_above(other, same, 0), first_above(book, group, 0))
                        self.assertEqual(overlaps_upto(other, same, 12), overlaps_upto(book, group, 12))

    def test_texts_and_shells(self):
        for book in some_books():
            camp = Camp.all_seats(book.width)
            shell = Shell(read_book(write_book(book)), camp)
            self.assertEqual(shell("show"), "; ".join(write_book(book).split("\n")))
            for a, b in pairs(book):
                group = tuple(sorted((a, b)))
                fall = falling_order(book, group)
                self.assertEqual(shell(f"meets {a} {b}"), "yes" if fall is None else f"no from {fall}")
                text = shell(f"paper {b} {a}").replace("; ", "\n")
                self.assertEqual(read_paper(text), meeting_paper(book, group))
                self.assertEqual(write_paper(read_paper(text)), text)
            for kind in book:
                # The camp with all seats holds each kind at all orders.
                self.assertEqual(shell(f"pattern {kind}"), "0 1: 0")
            self.assertEqual([shell("dual"), shell("rest")], ["ok", "ok"])
            for kind in book:
                self.assertEqual(shell(f"pattern {kind}"), "0 1: none")


class Councils(unittest.TestCase):
    def test_a_pair_that_is_not_safe_splits_from_its_least_order_on(self):
        for book in (FREE, LONG, ROWS, SPLIT):
            for a, b in pairs(book):
                fall = falling_order(book, tuple(sorted((a, b))))
                for order in range(LAST_ORDERS[book.width] + 1):
                    if book.width ** order > 800:
                        continue
                    deeds = breaking_deeds(book, order, a, b)
                    self.assertIs(deeds is None, fall is None or order < fall)

    def test_a_book_with_one_line_more(self):
        # One kind that decides alone makes the council unsafe with it, and the others stay as they are.
        book = MAJ.with_line("kind r of r r r least 0 1 2")
        self.assertIsNone(breaking_deeds(book, 2, "a", "a"))
        self.assertIsNotNone(breaking_deeds(book, 2, "a", "r"))
        self.assertEqual(book.without("r"), MAJ)
        self.assertIsInstance(book, Book)


if __name__ == "__main__":
    unittest.main()
