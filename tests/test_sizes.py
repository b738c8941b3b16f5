"""Sizes, numbers and choices of least quorums against lists of all of them: stage 8."""

import itertools
import random
import time
import unittest
from collections import Counter

from grownquorums.books.books import Book
from grownquorums.errors import InvalidBook, InvalidNumber, InvalidOperation, InvalidSeat, TooMany, UnknownName
from grownquorums.measure import sizes
from grownquorums.measure.sizes import (
    MAX_DIGITS, choice_of, chosen_index, chosen_seat, chosen_size, count_least, count_sizes, fewest_failures,
    greatest_size, is_choice, is_chosen, least_size, light_choice,
)
from grownquorums.seats.seats import number_of
from tests import plain, samples
from tests.refusal import Refusal
from tests.samples import FREE, MAJ, ODD, ROWS, TREE

PICKS = ({"s": (0,), "t": (0, 1)}, {"s": (0,), "t": (1, 2)})


def named(book, kind, order, choice):
    """A plain look at the quorum that a choice names: a list of its seats, by their numbers."""
    if order == 0:
        return [()]
    row = book.rules[kind].row
    return [(place, *seat) for place in choice[order - 1][kind] for seat in named(book, row[place], order - 1, choice)]


def random_choice(book, order, seed):
    chosen = random.Random(repr((book.lines, order, seed)))
    return tuple({kind: chosen.choice(book[kind].family) for kind in book} for _ in range(order))


class Example(unittest.TestCase):
    def test_the_examples_of_the_document(self):
        self.assertEqual(
            [[least_size(TREE, "t", order) for order in (0, 1, 2, 3)], greatest_size(TREE, "t", 100) == 2 ** 100,
             fewest_failures(FREE, "w", 50), least_size(FREE, "w", 2)],
            [[1, 2, 3, 4], True, 1, 9])
        self.assertEqual(
            [count_least(MAJ, "a", 2), count_least(TREE, "t", 3), count_sizes(TREE, "t", 2)], [27, 255, {3: 6, 4: 9}])
        picks = ({"s": (0,), "t": (0, 1)}, {"s": (0,), "t": (1, 2)})
        self.assertEqual(
            [is_choice(TREE, 2, picks), chosen_size(TREE, "t", 2, picks),
             [chosen_seat(TREE, "t", 2, picks, index) for index in range(4)]],
            [True, 4, [(1, 0), (1, 1), (2, 0), (2, 1)]])
        self.assertEqual(
            [choice_of(TREE, "t", 2, (0, 3, 4)), choice_of(TREE, "t", 2, (3, 4, 6, 8)),
             is_chosen(TREE, "t", 2, picks, (0, 0))],
            [({"s": (0,), "t": (0, 1)}, {"s": (0,), "t": (0, 1)}), None, False])

    def test_constants_and_names(self):
        self.assertEqual(MAX_DIGITS, 400)
        for name in ("least_size greatest_size fewest_failures count_least count_sizes is_choice light_choice "
                     "chosen_size is_chosen chosen_seat chosen_index choice_of").split():
            self.assertEqual(getattr(sizes, name).__module__, "grownquorums.measure.sizes")


def some_books():
    return [MAJ, TREE, FREE, ROWS, ODD] + samples.books(sizes=(1, 2, 4), seeds=2)


def few_quorums(book, kind, orders=range(5), limit=20000):
    """The lists of all least quorums of a kind at the lowest orders."""
    lists = []
    for order in orders:
        if book.width ** order > 4096 or (order and count_least(book, kind, order) > limit):
            break
        lists.append(samples.least_quorums(book, kind, order))
    return lists


class Sizes(unittest.TestCase):
    def test_against_all_least_quorums(self):
        for book in some_books():
            for kind in book:
                for order, quorums in enumerate(few_quorums(book, kind)):
                    many = Counter(len(quorum) for quorum in quorums)
                    self.assertEqual(least_size(book, kind, order), min(many))
                    self.assertEqual(greatest_size(book, kind, order), max(many))
                    self.assertEqual(count_least(book, kind, order), len(quorums))
                    found = count_sizes(book, kind, order)
                    self.assertEqual(found, dict(many))
                    self.assertEqual(list(found), sorted(found))
                blocks = few_quorums(book.dual(), kind)
                for order, quorums in enumerate(blocks):
                    self.assertEqual(fewest_failures(book, kind, order), min(map(len, quorums)))

    def test_fewest_failures_meet_all_quorums(self):
        for book in (MAJ, TREE, FREE, ROWS):
            for kind in book:
                quorums = [set(quorum) for quorum in samples.least_quorums(book, kind, 2)]
                seats = range(book.width ** 2)
                least = next(many for many in range(1, 10) if any(
                    all(quorum & set(some) for quorum in quorums) for some in itertools.combinations(seats, many)))
                self.assertEqual(fewest_failures(book, kind, 2), least)

    def test_great_orders(self):
        self.assertEqual([least_size(TREE, "t", order) for order in (50, 199, 200)], [51, 200, 201])
        self.assertEqual(greatest_size(TREE, "t", 200), 2 ** 200)
        self.assertEqual((least_size(FREE, "w", 200), greatest_size(FREE, "r", 200)), (3 ** 200, 1))
        self.assertEqual((fewest_failures(FREE, "r", 200), fewest_failures(FREE, "w", 200)), (3 ** 200, 1))
        self.assertEqual((least_size(MAJ, "a", 200), fewest_failures(MAJ, "a", 200)), (2 ** 200, 2 ** 200))
        wide = Book.from_lines("width 5", "kind a of a a a a a least 01234")
        self.assertEqual(least_size(wide, "a", 200), 5 ** 200)
        for book in samples.books(sizes=(6,), seeds=1):
            for kind in book:
                self.assertLessEqual(least_size(book, kind, 200), greatest_size(book, kind, 200))
                rule = book[kind]
                below = [least_size(book, other, 199) for other in rule.row]
                self.assertEqual(least_size(book, kind, 200), min(sum(below[at] for at in least) for least in rule))

    def test_numbers_with_up_to_400_digits(self):
        for order in range(201):
            self.assertEqual(count_least(FREE, "w", order), 1)
        single = Book.from_lines("width 5", "kind a of a a a a a least 0 1 2 3 4")
        self.assertEqual(count_least(single, "a", 200), 5 ** 200)
        for order in range(10):
            self.assertEqual(count_least(MAJ, "a", order), 3 ** (2 ** order - 1))
        self.assertLess(3 ** 511, 10 ** 400)
        for order in (10, 11, 100, 200):
            with self.assertRaises(TooMany) as caught:
                count_least(MAJ, "a", order)
            self.assertEqual(caught.exception.limit, 400)

    def test_the_edge_of_400_digits(self):
        # The numbers of a and of b are multiplied by 5 and by 2 in turns; those of c are five of a multiplied.
        book = Book.from_lines(
            "width 5", "kind a of b b b b b least 0 1 2 3 4", "kind b of a a a a a least 0 1",
            "kind c of a a a a a least 01234")
        self.assertEqual(count_least(book, "a", 160), 10 ** 80)
        self.assertEqual(count_least(book, "c", 160), 3125 * 10 ** 395)
        for order in (161, 162, 200):
            with self.assertRaises(TooMany) as caught:
                count_least(book, "c", order)
            self.assertEqual(caught.exception.limit, 400)
        self.assertEqual(self.plain_count(book, "c", 161), 10 ** 400)

    def test_many_digits_by_plain_sums(self):
        book = Book.from_lines(
            "width 5", "kind a of b b b b b least 0 1 2 3 4", "kind b of a a a a a least 0 1",
            "kind c of d d d d d least 01", "kind d of a b a b a least 0 1", "kind e of c c c c c least 01",
            "kind f of e e b b e least 0 24 3")
        found = Counter()
        for kind in book:
            for order in range(0, 201, 5):
                expected = self.plain_count(book, kind, order)
                found[expected < 10 ** 400] += 1
                if expected < 10 ** 400:
                    self.assertEqual(count_least(book, kind, order), expected)
                else:
                    self.assertRaises(TooMany, count_least, book, kind, order)
        self.assertGreater(found[False], 5)

    def plain_count(self, book, kind, order):
        counts = {other: 1 for other in book}
        for _ in range(order):
            below = counts
            counts = {}
            for other, rule in book.rules.items():
                counts[other] = 0
                for least in rule.family:
                    product = 1
                    for place in least:
                        product *= below[rule.row[place]]
                    counts[other] += product
        return counts[kind]

    def test_only_kinds_on_which_it_depends_have_too_many(self):
        book = Book.from_lines(
            "width 3", "kind a of a a a least 01 02 12", "kind b of b a a least 0", "kind c of c c a least 0 1")
        for order in (9, 10, 200):
            self.assertEqual(count_least(book, "b", order), 1)
            self.assertEqual(count_least(book, "c", order), 2 ** order)
        self.assertRaises(TooMany, count_least, book, "a", 10)

    def test_sizes_at_orders_with_many_seats(self):
        start = time.process_time()
        for book in samples.books(sizes=(1, 3, 6), seeds=2) + [MAJ, TREE, FREE, ROWS, ODD]:
            order = {2: 12, 3: 7, 4: 6, 5: 5}[book.width]
            for kind in book:
                found = count_sizes(book, kind, order)
                self.assertEqual(min(found), least_size(book, kind, order))
                self.assertEqual(max(found), greatest_size(book, kind, order))
                self.assertEqual(sum(found.values()), self.plain_count(book, kind, order))
        self.assertLess(time.process_time() - start, 60)

    def plain_sizes(self, book, kind, order):
        """The sizes by plain products of dicts."""
        if order == 0:
            return {1: 1}
        rule = book.rules[kind]
        below = {other: self.plain_sizes(book, other, order - 1) for other in rule.made_of}
        found = Counter()
        for least in rule.family:
            product = {0: 1}
            for place in least:
                further = Counter()
                for one, other in itertools.product(product.items(), below[rule.row[place]].items()):
                    further[one[0] + other[0]] += one[1] * other[1]
                product = further
            found.update(product)
        return dict(found)

    def test_sizes_by_plain_products(self):
        for book in some_books():
            for kind in book:
                for order in range(5 if book.width < 5 else 4):
                    self.assertEqual(count_sizes(book, kind, order), self.plain_sizes(book, kind, order))
        self.assertEqual(count_sizes(TREE, "t", 7), self.plain_sizes(TREE, "t", 7))
        self.assertEqual(count_sizes(ROWS, "o", 9), self.plain_sizes(ROWS, "o", 9))


class Choices(unittest.TestCase):
    def test_all_choices_of_low_orders(self):
        for book in (MAJ, TREE, FREE, ROWS, ODD):
            for order in (0, 1, 2):
                dicts = [dict(zip(book, sets)) for sets in itertools.product(*[book[kind].family for kind in book])]
                for choice in itertools.product(dicts, repeat=order):
                    self.assertIs(is_choice(book, order, choice), True)
                    for other in (0, 1, 2, 3):
                        if other != order:
                            self.assertIs(is_choice(book, other, choice), False)
                    for kind in book:
                        self.look(book, kind, order, choice)

    def test_random_choices(self):
        for book in samples.books(sizes=(1, 3), seeds=2):
            for order in (1, 2, 3):
                choice = random_choice(book, order, 1)
                for kind in book:
                    self.look(book, kind, order, choice)

    def look(self, book, kind, order, choice):
        seats = named(book, kind, order, choice)
        self.assertEqual(chosen_size(book, kind, order, choice), len(seats))
        self.assertEqual([chosen_seat(book, kind, order, choice, index) for index in range(len(seats))], seats)
        for index in (-1, len(seats), True, None):
            with self.assertRaises(InvalidNumber) as caught:
                chosen_seat(book, kind, order, choice, index)
            self.assertIs(caught.exception.value, index)
        for seat in samples.seats(book.width, order):
            self.assertIs(is_chosen(book, kind, order, choice, seat), seat in seats)
            if seat in seats:
                self.assertEqual(chosen_index(book, kind, order, choice, seat), seats.index(seat))
            else:
                self.assertRaises(InvalidSeat, chosen_index, book, kind, order, choice, seat)

    def test_great_orders(self):
        for book in [TREE, FREE] + samples.books(sizes=(6,), seeds=1):
            for order in (50, 200):
                choice = random_choice(book, order, 2)
                for kind in book:
                    size = chosen_size(book, kind, order, choice)
                    self.assertLessEqual(least_size(book, kind, order), size)
                    self.assertLessEqual(size, greatest_size(book, kind, order))
                    last = None
                    for index in sorted({0, size // 3, size // 2, size - 1}):
                        seat = chosen_seat(book, kind, order, choice, index)
                        self.assertIs(is_chosen(book, kind, order, choice, seat), True)
                        self.assertEqual(chosen_index(book, kind, order, choice, seat), index)
                        self.assertTrue(last is None or last < number_of(book.width, order, seat))
                        last = number_of(book.width, order, seat)
                    self.assertRaises(InvalidNumber, chosen_seat, book, kind, order, choice, size)

    def test_light_choices(self):
        for book in some_books():
            for order in (0, 1, 2, 3, 20, 200):
                choice = light_choice(book, order)
                self.assertIs(is_choice(book, order, choice), True)
                for picks in choice:
                    self.assertEqual(list(picks), list(book.kinds))
                for lower in {0, order // 2, max(order - 1, 0), order}:
                    for kind in book:
                        self.assertEqual(
                            chosen_size(book, kind, lower, choice[:lower]), least_size(book, kind, lower))

    def bent(self, choice, chosen):
        """Choices of the same order with one pick, one dict or one place that is wrong."""
        at = chosen.randrange(len(choice))
        picks = choice[at]
        kind = chosen.choice(list(picks))
        least = picks[kind]
        place = chosen.randrange(len(least))
        news = [least[:place] + (other,) + least[place + 1:] for other in (None, 5, -1, str(least[place]), (least[place],))]
        if least[place] < 2:
            news.append(least[:place] + (least[place] == 1,) + least[place + 1:])
        news += [list(least), least[::-1] if len(least) > 1 else (), least + least[-1:], None, "0", least[0], {0: least}, (least,)]
        for new in news:
            yield choice[:at] + ({**picks, kind: new},) + choice[at + 1:]
        for new in ({**picks, "?": least}, {one: picks[one] for one in picks if one != kind}, {}, None, list(picks), picks[kind],
                    {("x" if one == kind else one): picks[one] for one in picks}, tuple(picks.items())):
            yield choice[:at] + (new,) + choice[at + 1:]
        yield choice[:at] + choice[at + 1:]
        yield choice + (picks,)
        yield list(choice)

    def test_choices_of_great_orders_that_are_bent_in_one_place(self):
        chosen = random.Random(81)
        for book in (FREE, TREE, ROWS, samples.random_book(5, 6, 1), samples.random_book(4, 1, 1)):
            kind = book.kinds[-1]
            for choice in (light_choice(book, 200), random_choice(book, 200, 4), random_choice(book, 1, 4)):
                order = len(choice)
                seat = chosen_seat(book, kind, order, choice, 0)
                self.assertIs(is_choice(book, order, choice), True)
                for _ in range(12):
                    for value in self.bent(choice, chosen):
                        self.assertIs(is_choice(book, order, value), False)
                        for call in (lambda: chosen_size(book, kind, order, value),
                                     lambda: is_chosen(book, kind, order, value, seat),
                                     lambda: chosen_seat(book, kind, order, value, 0),
                                     lambda: chosen_index(book, kind, order, value, seat)):
                            self.assertRaises(InvalidOperation, call)

    def test_other_tuples_and_dicts_of_the_same_picks_are_choices(self):
        for book in (FREE, TREE, samples.random_book(5, 6, 1)):
            choice = random_choice(book, 200, 5)
            other = tuple({kind: tuple(int(str(place)) for place in picks[kind]) for kind in reversed(list(picks))}
                          for picks in choice)
            for kind in book:
                size = chosen_size(book, kind, 200, choice)
                self.assertEqual(chosen_size(book, kind, 200, other), size)
                for index in (0, size // 2, size - 1):
                    seat = chosen_seat(book, kind, 200, choice, index)
                    self.assertEqual(chosen_seat(book, kind, 200, other, index), seat)
                    self.assertEqual(chosen_index(book, kind, 200, other, seat), index)

    def test_which_error_comes_first(self):
        choice = light_choice(FREE, 200)
        wrong = choice[:100] + ({**choice[100], "g": (0, True)},) + choice[101:]
        for value in (wrong, None, choice[1:]):
            self.assertRaises(InvalidOperation, is_chosen, FREE, "w", 200, value, None)
            self.assertRaises(InvalidOperation, chosen_index, FREE, "w", 200, value, None)
            self.assertRaises(InvalidOperation, chosen_seat, FREE, "w", 200, value, None)
        self.assertRaises(InvalidSeat, chosen_index, FREE, "r", 200, choice, (0,) * 199)
        self.assertRaises(InvalidSeat, chosen_index, FREE, "r", 200, choice, (0,) * 199 + (True,))
        self.assertRaises(InvalidSeat, chosen_index, FREE, "r", 200, choice, (1,) * 200)
        self.assertIs(is_chosen(FREE, "r", 200, choice, (1,) * 200), False)
        self.assertRaises(InvalidNumber, chosen_seat, FREE, "r", 200, choice, 1)

    def test_a_walk_through_the_seats_of_a_named_quorum(self):
        choice = light_choice(FREE, 200)
        size = least_size(FREE, "g", 200)
        start = time.process_time()
        for index in range(1000):
            seat = chosen_seat(FREE, "w", 200, choice, index)
            self.assertIs(is_chosen(FREE, "w", 200, choice, seat), True)
            self.assertEqual(chosen_index(FREE, "w", 200, choice, seat), index)
            self.assertEqual(chosen_size(FREE, "g", 200, choice), size)
        self.assertLess(time.process_time() - start, 3)

    def test_values_near_a_choice(self):
        good = PICKS[0]
        bad = ({}, {"s": (0,)}, {"t": (0, 1)}, {"s": (0,), "t": (0, 1), "u": (0,)}, {"s": (0,), "u": (0, 1)},
               {"s": (1,), "t": (0, 1)}, {"s": (0,), "t": (0,)}, {"s": (0,), "t": (0, 1, 2)}, {"s": (0,), "t": (1, 0)},
               {"s": (0,), "t": [0, 1]}, {"s": (0,), "t": (0, True)}, {"s": (False,), "t": (0, 1)},
               {"s": (0,), "t": None}, {"s": 0, "t": (0, 1)}, {"s": (0,), "t": "01"}, {"s": (0,), 1: (0, 1)},
               {"s": (0,), "t": ((0, 1),)}, {"s": (0,), "t": ()}, [("s", (0,)), ("t", (0, 1))], None, "", (), TREE,
               {"s": (0,), "t": (0, 3)}, {"s": (0,), "t": {0: 1}}, {("s",): (0,), "t": (0, 1)})
        for value in bad:
            for choice in ((value,), (good, value), (value, good)):
                self.assertIs(is_choice(TREE, len(choice), choice), False)
                with self.assertRaises(InvalidOperation):
                    chosen_size(TREE, "t", len(choice), choice)
        for value in samples.VALUES + (good, [good], (good, good), {0: good}, ()):
            self.assertIs(is_choice(TREE, 1, value), False)
        self.assertIs(is_choice(TREE, 1, ({"t": (1, 2), "s": (0,)},)), True)
        self.assertIs(is_choice(TREE, 0, ()), True)
        self.assertIs(is_choice(TREE, 0, []), False)
        self.assertIs(is_choice(TREE, 2, (good, good)), True)


class ChoiceOf(unittest.TestCase):
    def has_one_part_of_a_kind(self, book, kind, order, quorum):
        """A plain look at all parts at all orders: whether two of one kind and order differ."""
        parts = {(kind, order): quorum}
        left = [(kind, order, quorum)]
        while left:
            one, at, seats = left.pop()
            if at == 0:
                continue
            size = book.width ** (at - 1)
            for place, lower in enumerate(book[one].row):
                part = tuple(number - place * size for number in seats if number // size == place)
                if part:
                    if parts.setdefault((lower, at - 1), part) != part:
                        return False
                    left.append((lower, at - 1, part))
        return True

    def test_all_least_quorums(self):
        found = Counter()
        for book in some_books():
            for kind in book:
                for order, quorums in enumerate(few_quorums(book, kind, range(4), 600)):
                    for quorum in quorums:
                        choice = choice_of(book, kind, order, quorum)
                        found[choice is None] += 1
                        self.assertIs(choice is not None, self.has_one_part_of_a_kind(book, kind, order, quorum))
                        if choice is not None:
                            self.assertIs(is_choice(book, order, choice), True)
                            seats = named(book, kind, order, choice)
                            self.assertEqual(tuple(number_of(book.width, order, seat) for seat in seats), quorum)
                            for picks in choice:
                                self.assertEqual(list(picks), list(book.kinds))
        self.assertGreater(min(found.values()), 500)

    def test_quorums_that_choices_name(self):
        for book in samples.books(sizes=(2, 6), seeds=1):
            order = {2: 12, 3: 7, 4: 6, 5: 5}[book.width]
            for kind in book:
                choice = random_choice(book, order, 3)
                seats = named(book, kind, order, choice)
                quorum = tuple(number_of(book.width, order, seat) for seat in seats)
                found = choice_of(book, kind, order, quorum)
                self.assertEqual(named(book, kind, order, found), seats)

    def test_results_share_nothing(self):
        first = choice_of(TREE, "t", 2, (0, 3, 4))
        first[0].clear()
        self.assertEqual(choice_of(TREE, "t", 2, (0, 3, 4))[0], {"s": (0,), "t": (0, 1)})
        light_choice(TREE, 2)[1].clear()
        self.assertIs(is_choice(TREE, 2, light_choice(TREE, 2)), True)


class Wrong(Refusal, unittest.TestCase):
    GOOD = {
        "book": MAJ, "kind": "a", "order": 2, "choice": ({"a": (0, 1)}, {"a": (1, 2)}), "seat": (1, 0), "index": 3,
        "value": None, "quorum": (0, 1, 3, 5),
    }
    WRONG = {
        "book": (samples.NO_BOOKS, InvalidBook),
        "kind": (samples.NO_KINDS, UnknownName),
        "order": (samples.NO_ORDERS, InvalidNumber),
        "choice": (samples.VALUES + (
            (), ({"a": (0, 1)},), ({"a": (0, 1)},) * 3, [{"a": (0, 1)}] * 2, ({"a": (0, 1)}, {}),
            ({"a": (0,)}, {"a": (0, 1)}), ({"a": (0, 1)}, {"b": (0, 1)}), ({"a": (0, True)}, {"a": (0, 1)}),
            ({"a": (0, 1)}, None), ({"a": (0, 1)}, {"a": (0, 1), "b": (0, 1)}), ({"a": [0, 1]}, {"a": (0, 1)}),
        ), InvalidOperation),
        "seat": (samples.VALUES + (
            (), (0, 0, 0), (0, 3), (0, -1), (0, True), [1, 0], "10", {1: 0}, (1, None), (10 ** 400, 0)), InvalidSeat),
        "index": (plain.ODD_VALUES + plain.LONG_INTEGERS + plain.FULL_INTEGERS + (
            True, False, -1, 4, 5, "0", (0,), [0]), InvalidNumber),
        "quorum": (samples.VALUES + (
            (), (0,), (0, 1, 3), (0, 1, 2, 3, 4), (0, 1, 2, 3), [0, 1, 3, 5], (0, 1, 3, 3), (1, 0, 3, 5), (0, 1, 3, 9),
            (0, True, 3, 5), (0, 1, 3, 4, 5), None), InvalidOperation),
    }
    CALLS = (
        (least_size, ("book", "kind", "order")),
        (greatest_size, ("book", "kind", "order")),
        (fewest_failures, ("book", "kind", "order")),
        (count_least, ("book", "kind", "order")),
        (count_sizes, ("book", "kind", "order")),
        (is_choice, ("book", "order", "value")),
        (light_choice, ("book", "order")),
        (chosen_size, ("book", "kind", "order", "choice")),
        (is_chosen, ("book", "kind", "order", "choice", "seat")),
        (chosen_seat, ("book", "kind", "order", "choice", "index")),
        (chosen_index, ("book", "kind", "order", "choice", "seat")),
        (choice_of, ("book", "kind", "order", "quorum")),
    )

    def test_what_comes_then(self):
        good = self.GOOD["choice"]
        self.refused(chosen_index, (MAJ, "a", 2, good, (0, 0)), InvalidSeat)
        self.refused(chosen_index, (MAJ, "a", 2, None, (0, 0)), InvalidOperation)
        for book, last in ((ROWS, 12), (MAJ, 7), (ODD, 6), (samples.random_book(5, 2, 1), 5)):
            kind = book.kinds[0]
            count_sizes(book, kind, last)
            self.refused(choice_of, (book, kind, last, None), InvalidOperation)
            for order in (last + 1, 13, 200):
                self.refused(count_sizes, (book, kind, order), TooMany, 4096)
                for quorum in (None, (0,), ()):
                    self.refused(choice_of, (book, kind, order, quorum), TooMany, 4096)
            for function in (count_sizes, lambda *values: choice_of(*values, None)):
                self.refused(function, (book, "?", 200), UnknownName, "?")
                self.refused(function, (book, kind, 201), InvalidNumber, 201)
        self.refused(count_least, (MAJ, "b", 200), UnknownName, "b")


if __name__ == "__main__":
    unittest.main()
