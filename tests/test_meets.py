"""Meeting against plain looks at all quorums and all choices: points 0.12, 0.13, 0.15, 0.18, 0.19 and 9.1."""

import itertools
import random
import time
import unittest

from grownquorums.books.books import Book
from grownquorums.decide import meets as module
from grownquorums.decide.meets import (
    MAX_SEATS, Meetings, falling_order, is_group, is_meeting_paper, is_split, lower_group, meeting_paper, meets,
    meets_at, split_at,
)
from grownquorums.errors import InvalidBook, InvalidNumber, InvalidOperation, TooMany
from grownquorums.seats.systems import crowd_holds, is_least_quorum
from tests import plain, samples
from tests.refusal import Refusal
from tests.samples import FREE, MAJ, ODD, ROWS, TREE

LAST_ORDERS = {2: 12, 3: 7, 4: 6, 5: 5}

# Kinds that meet for some orders, the longer the later the letter; and a triple likewise.
LONG = Book.from_lines(
    "width 3", "kind a of a a a least 0 1 2", "kind b of a b b least 01 02 12", "kind c of b c c least 01 02 12",
    "kind d of c d d least 01 02 12", "kind e of d e e least 01 02 12", "kind f of e f f least 01 02 12")


def all_groups(book):
    return samples.groups(book, 2) + samples.groups(book, 3)


def plain_falls(book, size):
    """The least orders of failing, order by order, over all choices of least sets."""
    choices = {group: [lower for _, lower in samples.choices(book, group)] for group in samples.groups(book, size)}
    meeting, falls = set(choices), {}
    for order in range(1, 60):
        still = {group for group in meeting
                 if all(any(lower in meeting for lower in lowers) for lowers in choices[group])}
        falls.update({group: order for group in meeting - still})
        meeting = still
    return {group: falls[group] for group in sorted(falls)}


def some_books():
    return [MAJ, TREE, FREE, ROWS, ODD, LONG] + samples.books(sizes=(1, 2, 3, 5), seeds=3)


def falling_books():
    """Books with kinds that seldom split at once."""
    chosen = random.Random(91)
    found = []
    for width in (3, 4, 5):
        crowded = [family for family in samples.families(width)
                   if all(set(one) & set(other) for one in family for other in family)]
        for _ in range(6):
            kinds = chosen.sample(samples.LETTERS, chosen.choice((3, 4, 6)))
            lines = [f"width {width}"]
            for at, kind in enumerate(kinds):
                family = chosen.choice(crowded if at else samples.families(width))
                row = " ".join(chosen.choices(kinds, k=width))
                lines.append(f"kind {kind} of {row} least {plain.text_of(family)}")
            found.append(Book.from_lines(*lines))
    return found


class Example(unittest.TestCase):
    def test_the_examples_of_the_document(self):
        self.assertEqual(
            [meets(MAJ, ("a", "a")), meets(MAJ, ("a", "a", "a")), falling_order(MAJ, ("a", "a", "a")),
             meets(TREE, ("t", "t")), falling_order(TREE, ("t", "t", "t"))],
            [True, False, 1, True, 1])
        self.assertEqual(
            [falling_order(FREE, ("g", "g")), falling_order(FREE, ("r", "r")), meets(FREE, ("r", "w")),
             meets_at(FREE, ("g", "g"), 1)],
            [2, 1, True, True])
        meetings = Meetings(FREE, 2)
        self.assertEqual(
            [str(meetings), meetings.closed, meetings.falls],
            ["meetings of 3 out of 6 groups", (("g", "w"), ("r", "w"), ("w", "w")),
             {("g", "g"): 2, ("g", "r"): 1, ("r", "r"): 1}])
        self.assertEqual(
            [meeting_paper(TREE, ("t", "t")),
             is_meeting_paper(FREE, ("g", "g"), (
                 "split", ((1, ("r", "r"), ((0,), (1,))), (2, ("g", "g"), ((0, 1), (0, 2))))))],
            [("meet", (("s", "s"), ("t", "t"))), True])
        self.assertEqual(
            [len(split_at(FREE, ("g", "g"), 2)), is_split(FREE, ("r", "r"), 1, ((0,), (2,))),
             split_at(MAJ, ("a", "a"), 2)],
            [2, True, None])

    def test_constants_and_names(self):
        self.assertEqual(MAX_SEATS, 4096)
        for name in ("is_group lower_group meets_at meets falling_order Meetings meeting_paper is_meeting_paper "
                     "split_at is_split").split():
            self.assertEqual(getattr(module, name).__module__, "grownquorums.decide.meets")
        for name in "book arity closed falls __contains__ __len__ __iter__ __eq__ __str__".split():
            self.assertIn(name, vars(Meetings))


class Groups(unittest.TestCase):
    def test_what_is_a_group(self):
        for book in some_books()[:12]:
            known = set(all_groups(book))
            for many in range(5):
                for row in itertools.product(book.kinds + ("?",), repeat=many):
                    self.assertIs(is_group(book, row), row in known)

    def test_the_group_below(self):
        for book in some_books():
            for group in all_groups(book):
                for place in range(book.width):
                    self.assertEqual(lower_group(book, group, place), samples.below(book, group, place))


class Falling(unittest.TestCase):
    def test_all_choices(self):
        unlike = set()
        for book in some_books() + falling_books():
            for size in (2, 3):
                falls = plain_falls(book, size)
                unlike |= set(falls.values())
                for group in samples.groups(book, size):
                    fall = falls.get(group)
                    self.assertEqual(falling_order(book, group), fall)
                    self.assertIs(meets(book, group), fall is None)
                    for order in (0, 1, 2, 3, 4, 60, 10 ** 50, 10 ** 400 - 1):
                        self.assertIs(meets_at(book, group, order), fall is None or order < fall)
                    if fall is not None:
                        self.assertIs(meets_at(book, group, fall), False)
                        self.assertIs(meets_at(book, group, fall - 1), True)
                self.look_at_meetings(book, size, falls)
        self.assertLessEqual({1, 2, 3, 4, 5, 6}, unlike)

    def look_at_meetings(self, book, size, falls):
        groups = samples.groups(book, size)
        meetings = Meetings(book, size)
        closed = tuple(group for group in groups if group not in falls)
        self.assertEqual((meetings.book, meetings.arity), (book, size))
        self.assertEqual(meetings.closed, closed)
        self.assertEqual(meetings.falls, falls)
        self.assertEqual(list(meetings.falls), sorted(falls))
        self.assertEqual((len(meetings), list(meetings)), (len(groups), groups))
        self.assertEqual(str(meetings), f"meetings of {len(closed)} out of {len(groups)} groups")
        for group in groups:
            self.assertIs(group in meetings, group in closed)

    def test_all_quorums_of_low_orders(self):
        for book in some_books():
            for size in (2, 3):
                for group in samples.groups(book, size):
                    for order in range(4):
                        if not self.look_at_quorums(book, group, order):
                            break

    def look_at_quorums(self, book, group, order):
        """Compare with all quorums if they are few; whether they were."""
        lists = [samples.least_quorums(book, kind, order) for kind in group] if order < 3 else [range(999)]
        many = 1
        for one in lists:
            many *= len(one)
        if many > 3000 or order > 2:
            return False
        expected = all(samples.shared(row) for row in itertools.product(*lists))
        self.assertIs(meets_at(book, group, order), expected)
        return True

    def test_the_edge_of_each_order(self):
        self.assertEqual([falling_order(LONG, (kind, kind)) for kind in "abcdef"], [1, 2, 3, 4, 5, 6])
        self.assertEqual([meets_at(LONG, ("f", "f"), order) for order in range(8)], [True] * 6 + [False] * 2)

    def test_pairs_meet_as_one_is_within_the_other_of_the_dual_book(self):
        for book in (MAJ, TREE, FREE, ROWS):
            dual = book.dual()
            for order in range(3 if book.width == 3 else 4):
                for one, other in samples.groups(book, 2):
                    quorums = samples.least_quorums(book, one, order)
                    expected = all(crowd_holds(dual, other, order, quorum) for quorum in quorums)
                    self.assertIs(meets_at(book, (one, other), order), expected)

    def test_what_is_not_true(self):
        self.assertEqual([meets(FREE, group) for group in (("g", "w"), ("w", "w"), ("g", "g"))], [True, True, False])
        three = [falling_order(MAJ, ("a", "a")), falling_order(MAJ, ("a", "a", "a"))]
        self.assertEqual(three, [None, 1])
        self.assertIs(meets_at(LONG, ("f", "f"), 5), True)
        self.assertIs(meets(LONG, ("f", "f")), False)


def plain_paper(book, group, value):
    """Point 9.1, word by word; for values of the right form."""
    word, rows = value
    if any(not one < other for one, other in zip(rows, rows[1:])):
        return False
    if word == "meet":
        return group in rows and all(
            any(lower in rows for lower in lowers) for one in rows for _, lowers in samples.choices(book, one))
    if group not in [row[1] for row in rows]:
        return False
    for order, one, sets in rows:
        for place in samples.shared(sets):
            lower = samples.below(book, one, place)
            if not any(other[1] == lower and other[0] < order for other in rows):
                return False
    return True


class Papers(unittest.TestCase):
    def test_papers_of_both_forms(self):
        for book in some_books() + falling_books():
            for group in all_groups(book):
                paper = meeting_paper(book, group)
                fall = falling_order(book, group)
                self.assertEqual(paper[0], "meet" if fall is None else "split")
                self.assertIs(is_meeting_paper(book, group, paper), True)
                self.assertIs(plain_paper(book, group, paper), True)
                if fall is not None:
                    self.assertEqual([row[0] for row in paper[1] if row[1] == group], [fall])

    def test_papers_made_otherwise(self):
        for book in some_books() + falling_books():
            for size in (2, 3):
                falls = plain_falls(book, size)
                groups = samples.groups(book, size)
                closed = tuple(group for group in groups if group not in falls)
                rows = []
                for group, fall in falls.items():
                    right = [sets for sets, lowers in samples.choices(book, group)
                             if all(falls.get(lower, 99) < fall for lower in lowers)]
                    rows += [(order, group, sets) for sets in right[-3:] for order in (fall, 200)]
                for group in groups:
                    self.assertIs(is_meeting_paper(book, group, ("meet", closed)), group in closed)
                    self.assertIs(is_meeting_paper(book, group, ("split", tuple(sorted(rows)))), group in falls)
                    self.assertIs(is_meeting_paper(book, group, ("split", closed)), False)
                    self.assertIs(is_meeting_paper(book, group, ("meet", tuple(groups))), not falls)

    def bent(self, book, size, paper, chosen):
        """Papers with one thing left out, put in or exchanged."""
        word, rows = paper
        groups = samples.groups(book, size)
        for at, row in enumerate(rows):
            yield word, rows[:at] + rows[at + 1:]
            yield word, rows[:at + 1] + rows[at:]
            yield word, rows[:at] + rows[at:at + 2][::-1] + rows[at + 2:]
            if word == "meet":
                group = chosen.choice(groups)
                yield word, tuple(sorted({*rows, group}))
                yield word, tuple(sorted({*rows[:at], *rows[at + 1:], group}))
                continue
            order, group, sets = row
            other = chosen.choice(groups)
            news = [(other_order, group, sets) for other_order in (order - 1, order + 1, 1, 200) if other_order]
            news += [(order, other, chosen.choice(samples.choices(book, other))[0])]
            news += [(order, group, chosen.choice(samples.choices(book, group))[0]) for _ in range(3)]
            for new in news:
                yield word, tuple(sorted([*rows[:at], new, *rows[at + 1:]]))
                yield word, tuple(sorted([*rows, new]))

    def test_bent_papers(self):
        chosen = random.Random(92)
        found = {True: 0, False: 0}
        for book in some_books()[:14] + falling_books():
            for size in (2, 3):
                for group in samples.groups(book, size)[:20]:
                    for value in self.bent(book, size, meeting_paper(book, group), chosen):
                        expected = plain_paper(book, group, value)
                        found[expected] += 1
                        self.assertIs(is_meeting_paper(book, group, value), expected, (book.lines, group, value))
        self.assertGreater(min(found.values()), 1000)

    def test_papers_of_the_other_form(self):
        for book in (MAJ, TREE, FREE, LONG):
            for group in all_groups(book):
                word, rows = meeting_paper(book, group)
                other = {"meet": "split", "split": "meet"}[word]
                self.assertIs(is_meeting_paper(book, group, (other, rows)), False)
                for word in ("Meet", "", None, "meets", 0, ("meet",)):
                    self.assertIs(is_meeting_paper(book, group, (word, rows)), False)

    def test_values_that_are_no_papers(self):
        group = ("g", "g")
        entry = (1, ("r", "r"), ((0,), (1,)))
        last = (2, group, ((0, 1), (0, 2)))
        self.assertIs(is_meeting_paper(FREE, group, ("split", (entry, last))), True)
        wrong = (
            (True, ("r", "r"), ((0,), (1,))), (0, ("r", "r"), ((0,), (1,))), (-1, ("r", "r"), ((0,), (1,))),
            (201, ("r", "r"), ((0,), (1,))), ("1", ("r", "r"), ((0,), (1,))), (None, ("r", "r"), ((0,), (1,))),
            (10 ** 400, ("r", "r"), ((0,), (1,))), (1, ("r",), ((0,),)), (1, ("r", "r", "r"), ((0,), (1,), (2,))),
            (1, ["r", "r"], ((0,), (1,))), (1, "rr", ((0,), (1,))), (1, ("r", "z"), ((0,), (1,))),
            (1, ("r", "g"), ((0,), (0, 1))), (1, ("r", "r"), ((0,),)), (1, ("r", "r"), ((0,), (1,), (2,))),
            (1, ("r", "r"), ((0,), (1, 2))), (1, ("r", "r"), ((0,), (3,))), (1, ("r", "r"), ((0,), (True,))),
            (1, ("r", "r"), ((False,), (1,))), (1, ("r", "r"), [(0,), (1,)]), (1, ("r", "r"), ((0,), [1])),
            (1, ("r", "r"), ((0,), None)), (1, ("r", "r"), ((0,), ())), (1, ("r", "r")), (1, ("r", "r"), ((0,), (1,)), 0),
            [1, ("r", "r"), ((0,), (1,))], None, "", (), 1, (1, ("r", "r"), "01"), (1, ("r", "r"), ((0,), (0,))),
            {1: 2}, FREE, (1, None, ((0,), (1,))), (1, ("r", None), ((0,), (1,))), (1, ("r", ["r"]), ((0,), (1,))),
        )
        for value in wrong:
            for rows in ((value, last), (entry, last, value), (value, entry, last), (value,), [entry, last], value):
                self.assertIs(is_meeting_paper(FREE, group, ("split", rows)), False)
                self.assertIs(is_meeting_paper(FREE, group, ("meet", rows)), False)
        good = (("s", "s"), ("t", "t"))
        self.assertIs(is_meeting_paper(TREE, ("t", "t"), ("meet", good)), True)
        for value in wrong + (("t", "s"), ("t",), ("t", "t", "t"), ["t", "t"], "tt", ("s", "z")):
            for rows in (good + (value,), (value,) + good, (good[0], value), (value,), (), list(good), value):
                self.assertIs(is_meeting_paper(TREE, ("t", "t"), ("meet", rows)), False)
        for value in samples.VALUES + (("meet",), ("meet", good, ()), ["meet", good], ("meet", None), ("split", ())):
            self.assertIs(is_meeting_paper(TREE, ("t", "t"), value), False)

    def test_groups_of_another_size_stand_in_no_paper(self):
        rows = (("s", "s"), ("s", "s", "s"), ("t", "t"))
        self.assertIs(is_meeting_paper(TREE, ("t", "t"), ("meet", rows)), False)
        self.assertIs(is_meeting_paper(TREE, ("s", "s", "s"), ("meet", rows)), False)
        self.assertIs(is_meeting_paper(TREE, ("s", "s", "s"), ("meet", rows[1:2])), True)
        entries = ((1, ("r", "r"), ((0,), (1,))), (1, ("r", "r", "r"), ((0,), (1,), (2,))))
        for at, group in enumerate((("r", "r"), ("r", "r", "r"))):
            self.assertIs(is_meeting_paper(FREE, group, ("split", entries)), False)
            self.assertIs(is_meeting_paper(FREE, group, ("split", entries[at:at + 1])), True)

    def test_a_paper_for_one_group_is_one_for_others_in_it(self):
        paper = meeting_paper(LONG, ("f", "f"))
        for kind in "abcdef":
            self.assertIs(is_meeting_paper(LONG, (kind, kind), paper), True)
        self.assertIs(is_meeting_paper(LONG, ("a", "b"), paper), False)
        self.assertEqual([row[0] for row in paper[1]], [1, 2, 3, 4, 5, 6])


class Splits(unittest.TestCase):
    def test_splits_of_low_orders(self):
        for book in some_books() + falling_books():
            for group in all_groups(book):
                fall = falling_order(book, group)
                for order in (0, 1, 2, 3):
                    self.look(book, group, order, fall)
            for group in all_groups(book)[::7]:
                self.look(book, group, LAST_ORDERS[book.width], falling_order(book, group))

    def look(self, book, group, order, fall):
        found = split_at(book, group, order)
        if fall is None or order < fall:
            self.assertIsNone(found)
            return
        self.assertIsInstance(found, tuple)
        self.assertEqual(len(found), len(group))
        for kind, quorum in zip(group, found):
            self.assertIs(is_least_quorum(book, kind, order, quorum), True)
        self.assertEqual(samples.shared(found), [])
        self.assertIs(is_split(book, group, order, found), True)

    def test_long_falls(self):
        for kind, fall in zip("abcdef", range(1, 7)):
            for order in range(8):
                self.look(LONG, (kind, kind), order, fall)

    def test_all_pairs_of_crowds(self):
        for book in (MAJ, TREE, FREE, ROWS):
            order = 1 if book.width == 3 else 2
            crowds = samples.crowds(book.width, order)
            for group in samples.groups(book, 2):
                for row in itertools.product(crowds, repeat=2):
                    self.assertIs(is_split(book, group, order, row), self.plain_split(book, group, order, row))
        crowds = samples.crowds(3, 1)
        for group in samples.groups(TREE, 3) + [("r", "r", "r"), ("g", "g", "r"), ("g", "w", "w")]:
            book = TREE if group[0] in "st" else FREE
            for row in itertools.product(crowds, repeat=3):
                self.assertIs(is_split(book, group, 1, row), self.plain_split(book, group, 1, row))

    def plain_split(self, book, group, order, row):
        held = [samples.holds(book, kind, order, samples.seats_of(book.width, order, crowd))
                for kind, crowd in zip(group, row)]
        return all(held) and not samples.shared(row)

    def test_values_that_are_no_splits(self):
        group = ("r", "r")
        self.assertIs(is_split(FREE, group, 1, ((0, 1), (2,))), True)
        for value in samples.VALUES + (
                (), ((0,),), ((0,), (1,), (2,)), [(0,), (1,)], ((0,), [1]), ((0,), (3,)), ((0,), (True,)), ((0,), ()),
                ((1, 0), (2,)), ((0, 0), (2,)), ((0,), (0,)), ((0,), None), {(0,): (1,)}, "01", ((0,), "1")):
            self.assertIs(is_split(FREE, group, 1, value), False)


class Quick(unittest.TestCase):
    def test_books_of_six_kinds_of_width_5(self):
        chosen = random.Random(93)
        start = time.process_time()
        for family in ("012 013 014 023 024 034 123 124 134 234", "01 02 03 04 12 13 14 23 24 34"):
            for _ in range(3):
                lines = [f"kind {kind} of {' '.join(chosen.choices('abcdef', k=5))} least {family}" for kind in "abcdef"]
                book = Book.from_lines("width 5", *lines)
                for size, many in ((2, 21), (3, 56)):
                    meetings = Meetings(book, size)
                    self.assertEqual(len(meetings), many)
                    for group in list(meetings)[::7]:
                        self.assertIs(is_meeting_paper(book, group, meeting_paper(book, group)), True)
        self.assertLess(time.process_time() - start, 20)


NO_GROUPS = tuple(value for value in samples.VALUES if value != ("a", "a")) + (
    (), ("a",), ("a",) * 4, ("a", "b"), ["a", "a"], "aa", "aaa", ("a", "A"), ("a", None), ("a", ["a"]), ("a", 1),
    {"a": "a"}, ("a", "a", ("a",)), ("z", "a"),
)


class Wrong(Refusal, unittest.TestCase):
    GOOD = {"book": MAJ, "group": ("a", "a", "a"), "place": 2, "any order": 10 ** 50, "order": 2, "size": 3,
            "value": None}
    WRONG = {
        "book": (samples.NO_BOOKS, InvalidBook),
        "group": (NO_GROUPS, InvalidOperation),
        "place": (plain.ODD_VALUES + plain.LONG_INTEGERS + plain.FULL_INTEGERS + (
            True, False, -1, 3, 4, "0", (0,), [0]), InvalidNumber),
        "any order": (plain.ODD_VALUES + plain.LONG_INTEGERS + (
            True, False, -1, 1 - 10 ** 400, "0", (0,), [0]), InvalidNumber),
        "order": (samples.NO_ORDERS, InvalidNumber),
        "size": (plain.ODD_VALUES + plain.LONG_INTEGERS + plain.FULL_INTEGERS + (
            True, False, -2, 0, 1, 4, "2", (2,), [3], 10 ** 30), InvalidNumber),
    }
    CALLS = (
        (is_group, ("book", "value")),
        (lower_group, ("book", "group", "place")),
        (meets_at, ("book", "group", "any order")),
        (meets, ("book", "group")),
        (falling_order, ("book", "group")),
        (Meetings, ("book", "size")),
        (meeting_paper, ("book", "group")),
        (is_meeting_paper, ("book", "group", "value")),
        (split_at, ("book", "group", "order")),
        (is_split, ("book", "group", "order", "value")),
    )

    def test_too_many_seats_come_last(self):
        for book, last in ((ROWS, 12), (MAJ, 7), (ODD, 6), (samples.random_book(5, 2, 1), 5)):
            group = (book.kinds[0],) * 2
            for function in (split_at, lambda *values: is_split(*values, None)):
                function(book, group, last)
                for order in (last + 1, 13, 200):
                    self.refused(function, (book, group, order), TooMany, 4096)
                self.refused(function, (book, "?", 200), InvalidOperation)
                self.refused(function, (book, group, 201), InvalidNumber, 201)
                self.refused(function, (None, group, 200), InvalidBook)

    def test_judged_values(self):
        for value in NO_GROUPS:
            self.assertIs(is_group(MAJ, value), False)
        self.assertEqual([is_group(FREE, value) for value in (("g", "r"), ("r", "g"), ("g", "g", "w"), ("g", "w", "g"))],
                         [True, False, True, False])


class Kept(unittest.TestCase):
    def test_any_value_can_be_compared_and_sought(self):
        meetings = Meetings(FREE, 2)
        for value in samples.VALUES + NO_GROUPS + (meetings.closed, meetings.falls, FREE):
            self.assertIs(meetings == value, False)
            self.assertIs(meetings != value, True)
            self.assertIs(value in meetings, False)
        self.assertEqual([value in meetings for value in (("g", "w"), ("w", "g"), ["g", "w"], ("g", "g"), ("w", "w"))],
                         [True, False, False, False, True])

    def test_equal_books_and_sizes(self):
        same = Meetings(Book.from_lines(*FREE.lines), 2)
        self.assertIs(Meetings(FREE, 2) == same, True)
        self.assertIs(Meetings(FREE, 2) != same, False)
        for other in (Meetings(FREE, 3), Meetings(FREE.dual(), 2), Meetings(TREE, 2)):
            self.assertIs(same == other, False)

    def test_meetings_never_change(self):
        meetings = Meetings(FREE, 2)
        meetings.falls.clear()
        self.assertEqual(meetings.falls, {("g", "g"): 2, ("g", "r"): 1, ("r", "r"): 1})
        for name in ("book", "arity", "closed", "falls"):
            self.assertRaises(AttributeError, setattr, meetings, name, ())


if __name__ == "__main__":
    unittest.main()
