"""Overlaps against all quorums and all choices: points 0.16, 0.19, 10.1 and 10.2."""

import functools
import itertools
import random
import time
import unittest
from unittest import mock

from grownquorums.books.books import Book
from grownquorums.decide import overlaps
from grownquorums.decide.meets import meets_at
from grownquorums.decide.overlaps import (
    MAX_BOUND, MAX_CYCLE, first_above, is_at_most, is_joint_choice, is_overlap_at_most, joint_choice, joint_cost,
    overlap, overlaps_upto, rhythm, sharing_quorums,
)
from grownquorums.errors import InvalidBook, InvalidNumber, InvalidOperation, TooMany
from grownquorums.seats.systems import is_least_quorum
from tests import plain, samples
from tests.refusal import Refusal
from tests.samples import FREE, MAJ, ODD, ROWS, TREE

# Its overlaps grow so slowly that with a bound of 50 they come to rest at the order 450 only.
SLOW = Book.from_lines(
    "width 3", "kind a of b e e least 01 02 12", "kind b of b d b least 12", "kind c of a b f least 01 02 12",
    "kind d of c e b least 01", "kind e of d a e least 01", "kind f of d b c least 01")

# The overlaps of some groups go up and down for ever, those of a, b and c in turns of three orders.
ROUND = Book.from_lines(
    "width 2", "kind a of b z least 01", "kind b of c c least 0", "kind c of a a least 0", "kind d of e z least 01",
    "kind e of d d least 0", "kind z of z z least 0 1")


def some_books():
    return [MAJ, TREE, FREE, ROWS, ODD, ROUND] + samples.books(sizes=(1, 2, 3), seeds=2)


def all_groups(book):
    return samples.groups(book, 2) + samples.groups(book, 3)


@functools.lru_cache(maxsize=None)
def plain_rows(lines, size):
    """For all orders up to 200 a dict from all groups to their overlaps, by point 0.16."""
    book = Book.from_lines(*lines)
    choices = {}
    for group in samples.groups(book, size):
        choices[group] = sorted({tuple(lowers) for _, lowers in samples.choices(book, group)})
    rows = [{group: 1 for group in choices}]
    for _ in range(200):
        below = rows[-1]
        rows.append({group: min(sum(below[lower] for lower in lowers) for lowers in choices[group])
                     for group in choices})
    return rows


def plain_rhythm(book, size, bound):
    """The turn and the period of what all groups have, at most the bound and 1."""
    known = {}
    for order, row in enumerate(plain_rows(book.lines, size)):
        capped = tuple(min(cost, bound + 1) for cost in row.values())
        if capped in known:
            return known[capped], order - known[capped]
        known[capped] = order
    return None


def named(book, group, order, choice):
    """How many seats the quorums share that a joint choice names: point 10.1, seat by seat."""
    if order == 0:
        return 1
    sets = choice[order - 1][group]
    return sum(named(book, samples.below(book, group, place), order - 1, choice) for place in samples.shared(sets))


class Example(unittest.TestCase):
    def test_the_examples_of_the_document(self):
        self.assertEqual(
            [overlaps_upto(MAJ, ("a", "a"), 3), overlaps_upto(FREE, ("g", "g"), 3),
             overlap(FREE, ("w", "w"), 200) == 3 ** 200, overlap(MAJ, ("a", "a", "a"), 1)],
            [(1, 1, 1, 1), (1, 1, 0, 0), True, 0])
        self.assertEqual(
            [rhythm(FREE, ("g", "g"), 5), is_at_most(MAJ, ("a", "a"), 1), first_above(FREE, ("w", "w"), 20),
             is_overlap_at_most(FREE, ("g", "g"), 10 ** 300, 0)],
            [(5, 1, (1, 1, 0, 0, 0, 0)), True, 3, True])
        self.assertEqual(
            [joint_cost(MAJ, ("a", "a"), 1, ({("a", "a"): ((0, 1), (0, 1))},)),
             is_joint_choice(MAJ, ("a", "a"), 1, ({},)), joint_choice(MAJ, ("a", "a"), 0)],
            [2, False, ()])

    def test_constants_and_names(self):
        self.assertEqual((MAX_BOUND, MAX_CYCLE), (50, 400))
        for name in ("overlap overlaps_upto joint_choice joint_cost is_joint_choice sharing_quorums rhythm is_at_most "
                     "first_above is_overlap_at_most").split():
            self.assertEqual(getattr(overlaps, name).__module__, "grownquorums.decide.overlaps")


class Overlaps(unittest.TestCase):
    def test_all_quorums_of_low_orders(self):
        for book in some_books():
            for group in all_groups(book):
                for order in range(3):
                    lists = [samples.least_quorums(book, kind, order) for kind in group]
                    many = 1
                    for one in lists:
                        many *= len(one)
                    if many > 3000:
                        break
                    expected = min(len(samples.shared(row)) for row in itertools.product(*lists))
                    self.assertEqual(overlap(book, group, order), expected)

    def test_all_orders(self):
        for book in some_books():
            for size in (2, 3):
                rows = plain_rows(book.lines, size)
                for group in samples.groups(book, size):
                    expected = tuple(row[group] for row in rows)
                    self.assertEqual(overlaps_upto(book, group, 200), expected)
                    for order in (0, 1, 2, 7, 199):
                        self.assertEqual(overlaps_upto(book, group, order), expected[:order + 1])
                        self.assertEqual(overlap(book, group, order), expected[order])
                        self.assertIs(meets_at(book, group, order), expected[order] > 0)

    def test_overlaps_that_fall(self):
        self.assertEqual(overlaps_upto(ROUND, ("a", "a"), 7), (1, 2, 1, 1, 2, 1, 1, 2))
        self.assertEqual(overlaps_upto(ROUND, ("d", "d", "d"), 5), (1, 2, 1, 2, 1, 2))


class JointChoices(unittest.TestCase):
    def test_their_costs(self):
        for book in some_books():
            for group in all_groups(book):
                for order in (0, 1, 2, 5, 40):
                    choice = joint_choice(book, group, order)
                    self.assertIs(is_joint_choice(book, group, order, choice), True)
                    cost = overlap(book, group, order)
                    self.assertEqual(joint_cost(book, group, order, choice), cost)
                    if order <= 5:
                        self.assertEqual(named(book, group, order, choice), cost)
                    for picks in choice:
                        self.assertEqual(list(picks), sorted(picks))

    def test_great_orders(self):
        for book in [FREE, ROUND] + samples.books(sizes=(6,), seeds=1):
            for group in all_groups(book)[::9]:
                choice = joint_choice(book, group, 200)
                self.assertIs(is_joint_choice(book, group, 200, choice), True)
                self.assertEqual(joint_cost(book, group, 200, choice), overlap(book, group, 200))

    def full_choice(self, book, size, order, seed):
        """Any sets for all groups, at all orders."""
        chosen = random.Random(seed)
        picks = {group: [sets for sets, _ in samples.choices(book, group)] for group in samples.groups(book, size)}
        return tuple({group: chosen.choice(sets) for group, sets in picks.items()} for _ in range(order))

    def test_with_further_groups(self):
        for book in some_books():
            for size in (2, 3):
                for order in (1, 2, 4):
                    choice = self.full_choice(book, size, order, 1)
                    for group in samples.groups(book, size):
                        self.assertIs(is_joint_choice(book, group, order, choice), True)
                        cost = joint_cost(book, group, order, choice)
                        self.assertEqual(cost, named(book, group, order, choice))
                        self.assertGreaterEqual(cost, overlap(book, group, order))

    def plain_judge(self, book, group, choice):
        """Point 10.1 word by word, for dicts from groups to least sets."""
        if choice and group not in choice[-1]:
            return False
        for below, picks in zip(choice, choice[1:]):
            for one, sets in picks.items():
                if any(samples.below(book, one, place) not in below for place in samples.shared(sets)):
                    return False
        return True

    def test_bent_choices(self):
        found = {True: 0, False: 0}
        chosen = random.Random(101)
        for book in some_books():
            for size in (2, 3):
                for group in samples.groups(book, size)[:6]:
                    for order in (1, 2, 3):
                        full = self.full_choice(book, size, order, 2)
                        for start in (joint_choice(book, group, order), full):
                            for choice in self.bent(start, full, chosen):
                                expected = len(choice) == order and self.plain_judge(book, group, choice)
                                found[expected] += 1
                                self.assertIs(is_joint_choice(book, group, order, choice), expected)
                                if expected:
                                    self.assertEqual(joint_cost(book, group, order, choice),
                                                     named(book, group, order, choice))
                                else:
                                    self.assertRaises(
                                        InvalidOperation, joint_cost, book, group, order, choice)
        self.assertGreater(min(found.values()), 1000)

    def bent(self, choice, full, chosen):
        """With a group left out, put in, or with other sets; with a dict more or less."""
        yield choice[1:]
        yield choice + choice[:1]
        for at, picks in enumerate(choice):
            for group in list(picks)[:3]:
                yield choice[:at] + ({one: sets for one, sets in picks.items() if one != group},) + choice[at + 1:]
                other = chosen.choice(full)[group]
                yield choice[:at] + ({**picks, group: other},) + choice[at + 1:]
            group = chosen.choice(list(full[0]))
            yield choice[:at] + ({**picks, group: full[at][group]},) + choice[at + 1:]

    def test_values_that_are_none(self):
        group, good = ("t", "t"), {("s", "s"): ((0,), (0,)), ("t", "t"): ((0, 1), (0, 1))}
        self.assertIs(is_joint_choice(TREE, group, 2, (good, good)), True)
        self.assertIs(is_joint_choice(TREE, group, 0, ()), True)
        bad = (
            {}, {("t", "t"): ((0, 1),)}, {("t", "t"): ((0, 1), (0, 1), (0, 1))}, {("t", "t"): ((0, 1), (0,))},
            {("t", "t"): [(0, 1), (0, 1)]}, {("t", "t"): ((0, 1), [0, 1])}, {("t", "t"): ((0, 1), (0, True))},
            {("t", "t"): None}, {("t", "t"): ((0, 1), None)}, {("s", "s"): ((0,), (0,))}, {"tt": ((0, 1), (0, 1))},
            {**good, ("s",): ((0,),)}, {**good, ("t", "s"): ((0, 1), (0,))}, {**good, "s": ((0,),)}, {**good, 1: ()},
            {**good, ("s", "z"): ((0,), (0,))}, {**good, ("s", "s", "s"): ((0,),) * 3}, {**good, None: None},
            {**good, ("s", "t"): ((0,), (0,))}, [(("t", "t"), ((0, 1), (0, 1)))], None, "", 0, (), TREE, (good,),
            {**good, (): ()}, {**good, True: ((0,), (0,))}, {**good, ("s", "t"): ((0,), (0, 3))},
        )
        for value in bad:
            for choice in ((good, value), (value, good), (value, value)):
                if value == {("s", "s"): ((0,), (0,))} and choice == (value, good):
                    continue
                self.assertIs(is_joint_choice(TREE, group, 2, choice), False)
                with self.assertRaises(InvalidOperation):
                    joint_cost(TREE, group, 2, choice)
        for value in samples.VALUES + (good, [good, good], {0: good}, (good,), (good,) * 3, None):
            self.assertIs(is_joint_choice(TREE, group, 2, value), False)
        for value in samples.VALUES + (good, [], (good,), ({},), {}):
            self.assertIs(is_joint_choice(TREE, group, 0, value), False)

    def test_results_share_nothing(self):
        joint_choice(MAJ, ("a", "a"), 2)[1].clear()
        self.assertIs(is_joint_choice(MAJ, ("a", "a"), 2, joint_choice(MAJ, ("a", "a"), 2)), True)


class Sharing(unittest.TestCase):
    def test_just_as_many_seats_as_told(self):
        last = {2: 12, 3: 7, 4: 6, 5: 5}
        for book in some_books():
            for group in all_groups(book):
                for order in (0, 1, 2, 3, last[book.width]):
                    found = sharing_quorums(book, group, order)
                    self.assertIsInstance(found, tuple)
                    self.assertEqual(len(found), len(group))
                    for kind, quorum in zip(group, found):
                        self.assertIs(is_least_quorum(book, kind, order, quorum), True)
                    self.assertEqual(len(samples.shared(found)), overlap(book, group, order))


class Rhythms(unittest.TestCase):
    def test_order_by_order(self):
        unlike = set()
        for book in some_books() + samples.books(sizes=(5,), seeds=1):
            for size in (2, 3):
                rows = plain_rows(book.lines, size)
                for bound in (0, 1, 5, 50):
                    known = plain_rhythm(book, size, bound)
                    for group in samples.groups(book, size)[::5]:
                        if known is not None:
                            unlike.add(known[1])
                            self.look(book, group, bound, known, [row[group] for row in rows])
        self.assertLessEqual({1, 6}, unlike)

    def look(self, book, group, bound, known, costs):
        turn, period = known
        expected = tuple(min(cost, bound + 1) for cost in costs[:turn + period])
        self.assertEqual(rhythm(book, group, bound), (turn, period, expected))
        above = [order for order, cost in enumerate(expected) if cost > bound]
        self.assertEqual(first_above(book, group, bound), above[0] if above else None)
        self.assertIs(is_at_most(book, group, bound), not above)
        for order in list(range(0, 201, 29)) + [10 ** 50, 10 ** 399 + 12345, 10 ** 400 - 1]:
            at = order if order < turn else turn + (order - turn) % period
            self.assertIs(is_overlap_at_most(book, group, order, bound), expected[at] <= bound)
            if order <= 200:
                self.assertEqual(costs[order] <= bound, expected[at] <= bound)

    def refused(self, limit, function, *values):
        with self.assertRaises(TooMany) as caught:
            function(*values)
        self.assertIs(type(caught.exception), TooMany)
        self.assertEqual(caught.exception.limit, limit)

    def test_too_long(self):
        group = ("a", "a")
        turn, period, costs = rhythm(SLOW, group, 44)
        self.assertEqual((turn, period, len(costs)), (396, 1, 397))
        rows = plain_rows(SLOW.lines, 2)
        self.assertEqual(costs[:201], tuple(min(row[group], 45) for row in rows))
        for bound in (45, 50):
            self.refused(400, rhythm, SLOW, group, bound)
            self.refused(400, is_at_most, SLOW, group, bound)
            self.refused(400, first_above, SLOW, group, bound)
            for order in (0, 3, 10 ** 50):
                self.refused(400, is_overlap_at_most, SLOW, group, order, bound)
        self.assertEqual(len(overlaps_upto(SLOW, group, 200)), 201)

    def test_just_as_long_as_is_let(self):
        for book, group, bound in ((FREE, ("g", "g"), 5), (FREE, ("w", "w"), 50), (ROUND, ("a", "b"), 3)):
            turn, period, costs = rhythm(book, group, bound)
            with mock.patch.object(overlaps, "MAX_CYCLE", turn + period):
                self.assertEqual(rhythm(book, group, bound), (turn, period, costs))
            with mock.patch.object(overlaps, "MAX_CYCLE", turn + period - 1):
                self.refused(turn + period - 1, rhythm, book, group, bound)

    def test_six_kinds_of_width_5(self):
        chosen = random.Random(102)
        start = time.process_time()
        for family in ("012 013 014 023 024 034 123 124 134 234", "0123 0124 0134 0234 1234"):
            lines = [f"kind {kind} of {' '.join(chosen.choices('abcdef', k=5))} least {family}" for kind in "abcdef"]
            book = Book.from_lines("width 5", *lines)
            for group in all_groups(book)[::9]:
                overlaps_upto(book, group, 200)
                rhythm(book, group, 50)
                self.assertIs(is_joint_choice(book, group, 200, joint_choice(book, group, 200)), True)
        self.assertLess(time.process_time() - start, 20)


NO_GROUPS = tuple(value for value in samples.VALUES if value != ("a", "a")) + (
    (), ("a",), ("a",) * 4, ("a", "b"), ["a", "a"], "aa", "aaa", ("a", "A"), ("a", None), ("a", ["a"]), ("a", 1),
)


class Wrong(Refusal, unittest.TestCase):
    GOOD = {
        "book": MAJ, "group": ("a", "a"), "order": 1, "any order": 10 ** 50, "bound": 50, "value": None,
        "choice": ({("a", "a"): ((0, 1), (0, 2))},),
    }
    WRONG = {
        "book": (samples.NO_BOOKS, InvalidBook),
        "group": (NO_GROUPS, InvalidOperation),
        "order": (samples.NO_ORDERS, InvalidNumber),
        "any order": (plain.ODD_VALUES + plain.LONG_INTEGERS + (
            True, False, -1, 1 - 10 ** 400, "0", (0,), [0]), InvalidNumber),
        "bound": (plain.ODD_VALUES + plain.LONG_INTEGERS + plain.FULL_INTEGERS + (
            True, False, -1, 51, 52, 1000, "0", (0,), [0]), InvalidNumber),
        "choice": (samples.VALUES + (
            (), ({},), ({("a", "a"): ((0, 1),)},), ({("a", "a"): ((0, 1), (0, 2))},) * 2, [{}],
            ({("a", "a"): ((0, 1), (0, True))},)), InvalidOperation),
    }
    CALLS = (
        (overlap, ("book", "group", "order")),
        (overlaps_upto, ("book", "group", "order")),
        (joint_choice, ("book", "group", "order")),
        (joint_cost, ("book", "group", "order", "choice")),
        (is_joint_choice, ("book", "group", "order", "value")),
        (sharing_quorums, ("book", "group", "order")),
        (rhythm, ("book", "group", "bound")),
        (is_at_most, ("book", "group", "bound")),
        (first_above, ("book", "group", "bound")),
        (is_overlap_at_most, ("book", "group", "any order", "bound")),
    )

    def test_what_comes_then(self):
        for book, last in ((ROWS, 12), (MAJ, 7), (ODD, 6), (samples.random_book(5, 2, 1), 5)):
            group = (book.kinds[0],) * 2
            sharing_quorums(book, group, last)
            for order in (last + 1, 13, 200):
                self.refused(sharing_quorums, (book, group, order), TooMany, 4096)
            self.refused(sharing_quorums, (book, "?", 200), InvalidOperation)
            self.refused(sharing_quorums, (book, group, 201), InvalidNumber, 201)
        self.refused(rhythm, (SLOW, ("a", "a"), 51), InvalidNumber, 51)
        self.refused(is_overlap_at_most, (SLOW, ("a", "a"), -1, 51), InvalidNumber, -1)
        self.refused(is_overlap_at_most, (SLOW, ("a", "a"), 3, 51), InvalidNumber, 51)
        self.refused(is_overlap_at_most, (SLOW, ("a", "a"), 3, 50), TooMany, 400)


if __name__ == "__main__":
    unittest.main()
