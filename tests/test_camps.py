"""Camps against plain looks at all seats of low orders: points 0.17, 0.20 and 7.1."""

import functools
import itertools
import random
import unittest
from unittest import mock

from grownquorums.errors import (
    InvalidBook, InvalidCamp, InvalidNumber, InvalidOperation, InvalidSeat, ParseError, TooMany, UnknownName,
)
from grownquorums.books.books import Book
from grownquorums.seats import camps
from grownquorums.seats.camps import MAX_ROUND, MAX_STATES, Camp, holding_orders, holds_at, pattern_of
from tests import plain, samples
from tests.refusal import Refusal
from tests.samples import EDGE, FLIP, FREE, MAJ, TREE

NO_LINES = samples.VALUES + (
    "width", "width 1", "width 6", "width 03", " width 3", "width 3 ", "first", "first ", "first P", "first pq",
    "first p q", "first  p", " first p", "first p ", "First p", "first 1", "first p\n", "state", "state p",
    "state p in", "state p in of", "state p in of p", "state p in of p p p p p p", "state p in p p p",
    "state p of p p p", "state in of p p p", "state p on of p p p", "state p In of p p p", "state P in of p p p",
    "state pp in of p p p", "state p in of p P p", "state p in of p pp p", "state p  in of p p p",
    "state p in  of p p p", "state p in of  p p p", "state p in of p p p ", " state p in of p p p",
    "state p in Of p p p", "State p in of p p p", "state p in of p p p\n", "state p in of p p 1", "p in of p p p",
    "state p in of p,p,p", "state p out", "kind p of p p p least 0", ("first p",), ["first p"], "state  in of p p p",
    "state p True of p p p", "of", "first of", "state of of of",
)


def low_orders(camp, limit=130):
    return [order for order in range(8) if camp.width ** order <= limit]


class Example(unittest.TestCase):
    def test_the_examples_of_the_document(self):
        edge = Camp.from_lines("width 3", "first p", "state p in of p p q", "state q out of q q q")
        self.assertEqual(
            [edge.size(2), edge.seat_at(2, 3), edge.has((0, 2)), edge.ahead_of((1, 2)), str(edge),
             edge.rest().lines[2]],
            [4, (1, 1), False, 4, "camp of width 3, 2 states", "state p out of p p q"])
        flip = Camp.from_lines("width 3", "first p", "state p in of q q q", "state q out of p p p")
        self.assertEqual(
            [pattern_of(MAJ, "a", edge), pattern_of(MAJ, "a", flip), holds_at(MAJ, "a", flip, 10 ** 50),
             holding_orders(MAJ, "a", flip, 6)],
            [(0, 1, (0,)), (0, 2, (0,)), True, (0, 2, 4)])
        self.assertEqual(
            [pattern_of(TREE, "t", edge), pattern_of(TREE, "s", flip), edge.common(flip).size(3),
             edge.merged(flip).size(2), edge.rest().is_same(edge)],
            [(0, 1, (0,)), (0, 2, (0,)), 0, 9, False])

    def test_constants_and_names(self):
        self.assertEqual((MAX_STATES, MAX_ROUND), (26, 4096))
        for name in ("Camp", "holds_at", "pattern_of", "holding_orders"):
            self.assertEqual(getattr(camps, name).__module__, "grownquorums.seats.camps")
        for name in ("from_lines", "all_seats", "width", "first", "states", "lines", "part", "rest", "common", "merged",
                     "has", "size", "seat_at", "ahead_of", "is_same", "__contains__", "__len__", "__eq__", "__str__"):
            self.assertIn(name, vars(Camp))


class Properties(unittest.TestCase):
    def test_lines_and_states(self):
        for camp in samples.camps():
            states = camp.states
            self.assertEqual(list(states), sorted(states))
            lines = [f"width {camp.width}", f"first {camp.first}"]
            lines += [f"state {state} {'in' if is_in else 'out'} of {' '.join(row)}"
                      for state, (is_in, row) in states.items()]
            self.assertEqual(camp.lines, tuple(lines))
            self.assertEqual(len(camp), len(states))
            self.assertEqual(str(camp), f"camp of width {camp.width}, {len(states)} states")
            again = Camp(camp.width, camp.first, {state: states[state] for state in list(states)[::-1]})
            self.assertEqual((again.lines, list(again.states)), (camp.lines, list(states)))
            self.assertIs(again == camp, True)
            self.assertIs(again != camp, False)
            self.assertTrue(all(isinstance(is_in, bool) for is_in, _ in states.values()))

    def test_lines_in_any_order(self):
        for camp in samples.camps(sizes=(1, 2, 3)):
            for lines in itertools.permutations(camp.lines):
                self.assertEqual(Camp.from_lines(*lines), camp)
        for camp in samples.camps(sizes=(10, 26)):
            self.assertEqual(Camp.from_lines(*camp.lines[::-1]), camp)

    def test_one_state(self):
        self.assertEqual(str(Camp.all_seats(2)).partition(", ")[0], "camp of width 2")
        self.assertEqual(str(Camp.from_lines("width 2", "first p", "state p in of p p")), "camp of width 2, 1 states")

    def test_all_seats(self):
        for width in plain.WIDTHS:
            camp = Camp.all_seats(width)
            for order in (0, 1, 2, 3, 200):
                self.assertEqual(camp.size(order), width ** order)
                self.assertEqual(camp.rest().size(order), 0)
            self.assertEqual(samples.camp_seats(camp, 3), samples.seats(width, 3))

    def test_a_camp_never_changes(self):
        states = {"p": (True, ("p", "p", "q")), "q": (False, ("q", "q", "q"))}
        camp = Camp(3, "p", states)
        states["p"] = (False, ("q", "q", "q"))
        del states["q"]
        camp.states.clear()
        camp.rest(), camp.part(2), camp.common(camp), camp.merged(FLIP)
        self.assertEqual(camp, EDGE)
        self.assertEqual(camp.states, EDGE.states)
        for name in ("width", "first", "states", "lines"):
            self.assertRaises(AttributeError, setattr, camp, name, ())


class Seats(unittest.TestCase):
    def test_against_the_list_of_all_seats(self):
        for camp in samples.camps():
            for order in low_orders(camp):
                inside = samples.camp_seats(camp, order)
                known = set(inside)
                self.assertEqual(camp.size(order), len(inside))
                for seat in samples.seats(camp.width, order):
                    self.assertIs(camp.has(seat), seat in known)
                    self.assertIs(seat in camp, seat in known)
                    self.assertEqual(camp.ahead_of(seat), sum(other < seat for other in inside))
                self.assertEqual([camp.seat_at(order, index) for index in range(len(inside))], inside)
                for index in (-1, len(inside), len(inside) + 1, True, None, 10 ** 400):
                    with self.assertRaises(InvalidNumber) as caught:
                        camp.seat_at(order, index)
                    self.assertIs(caught.exception.value, index)

    def test_parts_and_rest(self):
        for camp in samples.camps():
            for order in low_orders(camp, 70):
                inside = samples.camp_seats(camp, order)
                rest = [seat for seat in samples.seats(camp.width, order) if seat not in inside]
                self.assertEqual(samples.camp_seats(camp.rest(), order), rest)
                for place in range(camp.width):
                    part = [seat[1:] for seat in samples.camp_seats(camp, order + 1) if seat[0] == place]
                    self.assertEqual(samples.camp_seats(camp.part(place), order), part)
            rest = camp.rest()
            self.assertEqual((rest.first, rest.width), (camp.first, camp.width))
            self.assertEqual(rest.states, {state: (not is_in, row) for state, (is_in, row) in camp.states.items()})
            self.assertEqual(rest.rest(), camp)

    def test_common_and_merged(self):
        many = 0
        for width in plain.WIDTHS:
            group = samples.camps(widths=(width,), sizes=(1, 2, 4, 7, 26))
            for one, other in itertools.product(group, group):
                pairs = self.pairs(one, other)
                if len(pairs) > 26:
                    many += 1
                    for method in (one.common, one.merged):
                        with self.assertRaises(TooMany) as caught:
                            method(other)
                        self.assertEqual(caught.exception.limit, 26)
                    continue
                for order in low_orders(one, 70):
                    first, second = set(samples.camp_seats(one, order)), set(samples.camp_seats(other, order))
                    self.assertEqual(samples.camp_seats(one.common(other), order), sorted(first & second))
                    self.assertEqual(samples.camp_seats(one.merged(other), order), sorted(first | second))
        self.assertGreater(many, 50)

    def pairs(self, one, other):
        found, left = set(), [(one.first, other.first)]
        while left:
            pair = left.pop()
            if pair not in found:
                found.add(pair)
                left.extend(zip(one.states[pair[0]][1], other.states[pair[1]][1]))
        return found

    def ring(self, many):
        """A camp whose states come one behind the other, the last one in."""
        letters = samples.LETTERS[:many]
        return Camp(2, "a", {
            one: (one == letters[-1], (two, two)) for one, two in zip(letters, letters[1:] + letters[0])})

    def test_just_as_many_pairs_as_states_are_let(self):
        for one, other, many in ((2, 13, 26), (13, 2, 26), (26, 26, 26), (26, 13, 26), (3, 9, 9), (4, 5, 20)):
            camp = self.ring(one).common(self.ring(other))
            self.assertEqual([order for order in range(80) if camp.size(order)], list(range(many - 1, 80, many)))
        for one, other in ((3, 10), (4, 7), (5, 6), (26, 3), (25, 26), (14, 4)):
            self.assertRaises(TooMany, self.ring(one).common, self.ring(other))
            self.assertRaises(TooMany, self.ring(one).merged, self.ring(other))

    def test_great_orders(self):
        chosen = random.Random(71)
        for camp in samples.camps(seeds=1):
            for order in (20, 199, 200):
                size = camp.size(order)
                self.assertEqual(size + camp.rest().size(order), camp.width ** order)
                self.assertEqual(size, sum(camp.part(place).size(order - 1) for place in range(camp.width)))
                self.assertRaises(InvalidNumber, camp.seat_at, order, size)
                for index in {0, 1, size // 2, size - 1, chosen.randrange(size + 1)} & set(range(min(size, 2))) | (
                        {size // 2, size - 1, chosen.randrange(size)} if size else set()):
                    seat = camp.seat_at(order, index)
                    self.assertEqual(len(seat), order)
                    self.assertIs(camp.has(seat), True)
                    self.assertEqual(camp.ahead_of(seat), index)
                last = (camp.width - 1,) * order
                self.assertEqual(camp.ahead_of(last) + camp.has(last), size)
                self.assertEqual(camp.ahead_of((0,) * order), 0)

    def test_is_same(self):
        letters = samples.LETTERS
        for camp in samples.camps(sizes=(1, 2, 3, 5)):
            names = dict(zip(camp.states, letters[::-1]))
            other = Camp(camp.width, names[camp.first], {
                names[state]: (is_in, tuple(names[one] for one in row))
                for state, (is_in, row) in camp.states.items()})
            self.assertIs(camp.is_same(other), True)
            twice = {**camp.states, "z": (camp.states[camp.first][0], camp.states[camp.first][1])}
            if "z" not in camp.states:
                self.assertIs(camp.is_same(Camp(camp.width, "z", twice)), True)
            self.assertIs(camp.is_same(camp.rest()), False)
            self.assertIs(camp.is_same(camp.rest().rest()), True)
            for value in (None, camp.lines, str(camp), MAJ, Camp.all_seats(camp.width % 4 + 2)):
                self.assertIs(camp.is_same(value), False)
        for one, other in itertools.product(samples.camps(sizes=(1, 2, 3), seeds=4), repeat=2):
            same = one.width == other.width and all(
                samples.camp_seats(one, order) == samples.camp_seats(other, order) for order in low_orders(one, 250))
            if one.width != other.width or len(one) * len(other) <= len(low_orders(one, 250)) or not same:
                self.assertIs(one.is_same(other), same)

    def test_camps_that_part_late(self):
        for many in (2, 5, 13, 26):
            ring = self.ring(many)
            states = dict(ring.states)
            states[samples.LETTERS[many - 1]] = (False, ring.states[samples.LETTERS[many - 1]][1])
            self.assertIs(ring.is_same(Camp(2, "a", states)), False)
            states["a"] = (not states["a"][0], states["a"][1])
            self.assertIs(ring.is_same(Camp(2, "a", states)), False)
        empty = Camp.all_seats(2).rest()
        self.assertIs(self.ring(3).common(self.ring(2)).common(empty).is_same(empty), True)


@functools.lru_cache(maxsize=None)
def held(book_lines, camp_lines, order):
    """A plain look at all pairs of a state and a kind: which of them hold at an order."""
    book, camp = Book.from_lines(*book_lines), Camp.from_lines(*camp_lines)
    if order == 0:
        return {(state, kind) for state in camp.states for kind in book if camp.states[state][0]}
    lower = held(book_lines, camp_lines, order - 1)
    found = set()
    for state, (_, row) in camp.states.items():
        for kind, rule in book.rules.items():
            places = {place for place in range(book.width) if (row[place], rule.row[place]) in lower}
            if any(set(least) <= places for least in rule.family):
                found.add((state, kind))
    return found


def sequence(book, kind, camp, many):
    """Whether the camp holds the kind at the orders below."""
    return [(camp.first, kind) in held(book.lines, camp.lines, order) for order in range(many)]


def some_pairs():
    for width in plain.WIDTHS:
        for seed in range(3):
            for many, kinds in ((1, 1), (2, 2), (4, 3), (9, 2), (26, 6)):
                yield samples.random_book(width, kinds, seed + 50), samples.random_camp(width, many, seed + 50)
    for camp in (EDGE, FLIP, Camp.all_seats(3)):
        for book in (MAJ, TREE, FREE):
            yield book, camp


def rings(kind_rings, state_rings, kinds="bcdefghij"):
    """A book and a camp with a root, and rings behind its places."""
    rules, states, at, left = {}, {}, [], iter(kinds)
    for many in kind_rings:
        ring = [next(left) for _ in range(many)]
        at.append(ring[0])
        for one, two in zip(ring, ring[1:] + ring[:1]):
            rules[one] = two
    lines = ["width 2"] + [f"kind {one} of {two} {two} least 01" for one, two in rules.items()]
    lines.append(f"kind a of {at[0]} {at[-1]} least 0 1")
    left = iter(samples.LETTERS[1:])
    heads = []
    for many in state_rings:
        ring = [next(left) for _ in range(many)]
        heads.append(ring[0])
        for one, two in zip(ring, ring[1:] + ring[:1]):
            states[one] = (one == ring[0], (two, two))
    states["a"] = (False, (heads[0], heads[-1]))
    return Book.from_lines(*lines), Camp(2, "a", states)


class Patterns(unittest.TestCase):
    def test_low_orders_by_all_seats(self):
        for book, camp in some_pairs():
            for order in low_orders(camp):
                seats = set(samples.camp_seats(camp, order))
                for kind in book:
                    expected = samples.holds(book, kind, order, seats)
                    self.assertIs(holds_at(book, kind, camp, order), expected)
                    self.assertIs(holds_at(book.dual(), kind, camp.rest(), order), not expected)

    def test_order_by_order(self):
        for book, camp in some_pairs():
            for kind in book:
                row = sequence(book, kind, camp, 60)
                turn, period, orders = pattern_of(book, kind, camp)
                self.assertLess(turn + period, 30)
                self.assertEqual((turn, period), self.least_pattern(row))
                self.assertEqual(orders, tuple(order for order in range(turn + period) if row[order]))
                self.assertEqual([holds_at(book, kind, camp, order) for order in range(60)], row)
                for below in (0, 1, 2, 7, 60):
                    expected = tuple(order for order in range(below) if row[order])
                    self.assertEqual(holding_orders(book, kind, camp, below), expected)
                for order in (10 ** 50, 10 ** 399 + 7, 10 ** 400 - 1, 4096, 4097, 999999):
                    at = order if order < turn else turn + (order - turn) % period
                    self.assertIs(holds_at(book, kind, camp, order), row[at])

    def least_pattern(self, row):
        """The least period, and then the least turn, that are true of the later half of the row."""
        for period in range(1, len(row)):
            turn = len(row) - period
            while turn > 0 and row[turn - 1] == row[turn - 1 + period]:
                turn -= 1
            if turn < len(row) // 2:
                return turn, period
        return None

    def test_rings(self):
        for many in (1, 2, 5, 12):
            for other in (1, 3, 5, 13):
                book, camp = rings((1,), (many, other))
                turn, period, orders = pattern_of(book, "a", camp)
                row = [order > 0 and ((order - 1) % many == 0 or (order - 1) % other == 0) for order in range(700)]
                self.assertEqual([holds_at(book, "a", camp, order) for order in range(200)], row[:200])
                self.assertEqual(holding_orders(book, "a", camp, 600), tuple(n for n in range(600) if row[n]))
                self.assertEqual((turn, period), self.least_pattern(row))
                self.assertEqual(orders, tuple(n for n in range(turn + period) if row[n]))

    def test_what_is_held_can_come_again_sooner_than_all_else(self):
        # The part that matters has the period 1, though the states behind the other place go round.
        book = Book.from_lines("width 2", "kind a of a a least 0")
        camp = Camp.from_lines("width 2", "first p", "state p in of p q", "state q in of r r", "state r out of q q")
        self.assertEqual(pattern_of(book, "a", camp), (0, 1, (0,)))
        late = Camp.from_lines("width 2", "first p", "state p in of q q", "state q in of r r", "state r out of r r")
        self.assertEqual(pattern_of(book, "a", late), (2, 1, (0, 1)))

    def test_below_up_to_1000(self):
        self.assertEqual(holding_orders(MAJ, "a", FLIP, 1000), tuple(range(0, 1000, 2)))
        self.assertEqual(holding_orders(MAJ, "a", FLIP, 0), ())
        self.assertEqual(holding_orders(MAJ, "a", EDGE, 1000), tuple(range(1000)))


LONG = ("width 3", "kind a of d e a least 02 12", "kind b of b e c least 0", "kind c of b e b least 012",
        "kind d of b d d least 0 2", "kind e of d a e least 1")
LONG_CAMP = (
    "width 3", "first a", "state a in of x c i", "state b in of z q g", "state c in of v o z", "state d out of b b z",
    "state e out of q c t", "state f out of w v h", "state g in of j h p", "state h out of u o a",
    "state i out of m a y", "state j out of d i m", "state k in of c e w", "state l out of n m f",
    "state m in of r a u", "state n out of i p t", "state o out of a y r", "state p out of e f q", "state q in of o b c",
    "state r in of s q j", "state s in of f j b", "state t out of k m o", "state u in of w f n", "state v out of y s i",
    "state w out of t b d", "state x out of l w z", "state y in of p m l", "state z in of g u k")


class TooManyRounds(unittest.TestCase):
    def refused(self, limit, function, *values):
        with self.assertRaises(TooMany) as caught:
            function(*values)
        self.assertIs(type(caught.exception), TooMany)
        self.assertEqual(caught.exception.limit, limit)

    def test_what_does_not_come_again_for_long(self):
        book, camp = Book.from_lines(*LONG), Camp.from_lines(*LONG_CAMP)
        self.refused(4096, pattern_of, book, "a", camp)
        for order in (4097, 4098, 7991, 7992, 10 ** 50, 10 ** 400 - 1):
            self.refused(4096, holds_at, book, "a", camp, order)
        bits = [order for order in range(400) if (camp.first, "a") in held(book.lines, camp.lines, order)]
        self.assertEqual(holding_orders(book, "a", camp, 400), tuple(bits))
        self.assertEqual([order for order in range(100) if holds_at(book, "a", camp, order)],
                         [order for order in bits if order < 100])
        found = holding_orders(book, "a", camp, 1000)
        self.assertEqual([order for order in found if order >= 980],
                         [order for order in range(980, 1000) if holds_at(book, "a", camp, order)])
        for order in (4095, 4096):
            places = tuple(place for place, kind in enumerate(book["a"].row)
                           if holds_at(book, kind, camp.part(place), order - 1))
            self.assertIs(holds_at(book, "a", camp, order), book["a"].holds(places))

    def test_wrong_values_come_ahead(self):
        book, camp = Book.from_lines(*LONG), Camp.from_lines(*LONG_CAMP)
        for order in (-1, None, True, 10 ** 400):
            with self.assertRaises(InvalidNumber):
                holds_at(book, "a", camp, order)
        self.assertRaises(UnknownName, pattern_of, book, "f", camp)
        self.assertRaises(InvalidCamp, pattern_of, book, "a", None)
        for below in (-1, 1001, None):
            self.assertRaises(InvalidNumber, holding_orders, book, "a", camp, below)

    def test_just_as_many_rounds_as_are_let(self):
        book, camp = rings((1,), (5, 7))
        turn, period, _ = pattern_of(book, "a", camp)
        self.assertEqual((turn, period), (0, 35))
        with mock.patch.object(camps, "MAX_ROUND", 35):
            self.assertEqual(pattern_of(book, "a", camp)[:2], (0, 35))
            self.assertIs(holds_at(book, "a", camp, 36), True)
            self.assertIs(holds_at(book, "a", camp, 35 * 10 ** 9 + 1), True)
        with mock.patch.object(camps, "MAX_ROUND", 34):
            self.refused(34, pattern_of, book, "a", camp)
            self.refused(34, holds_at, book, "a", camp, 35)
            self.assertIs(holds_at(book, "a", camp, 34), False)
            self.assertEqual(holding_orders(book, "a", camp, 38), (1, 6, 8, 11, 15, 16, 21, 22, 26, 29, 31, 36))


NO_SEATS = tuple(value for value in samples.VALUES if value != (0,)) + (
    (3,), (-1,), (0, 3), (True,), (0, True), [0], [], "0", "", {0: 1}, (0, None), ((0,),), (10 ** 400,), (0,) * 201,
    (0,) * 5000,
)
NO_CAMPS = tuple(value for value in samples.VALUES if value is not EDGE) + (
    Camp.all_seats(2), Camp.all_seats(4), EDGE.lines, EDGE.states, str(EDGE), FLIP.rest,
)
STATES = EDGE.states
NO_STATES = tuple(samples.VALUES) + (
    {}, {"p": (True, ("p", "p"))}, {"p": (True, ("p", "p", "q"))}, {"p": (1, ("p", "p", "p"))},
    {"p": (None, ("p", "p", "p"))}, {"p": ("in", ("p", "p", "p"))}, {"p": [True, ("p", "p", "p")]},
    {"p": (True, ["p", "p", "p"])}, {"p": (True, "ppp")}, {"p": (True,)}, {"p": (True, ("p", "p", "p"), 0)},
    {"p": ("p", "p", "p")}, {"p": (True, ("p", "p", "p", "p"))}, {"P": (True, ("P", "P", "P"))},
    {"p": (True, ("p", "p", "p")), "qq": (True, ("p", "p", "p"))}, {"p": (True, ("p", "p", "p")), 1: (True, ("p",) * 3)},
    {"p": (True, ("p", "p", "p")), None: (True, ("p", "p", "p"))}, {"p": None}, {"p": (True, (("p",), "p", "p"))},
    {"p": (True, ("p", "p", ["p"]))}, {"p": (True, ("p", "p", None))}, {"q": (True, ("q", "q", "q"))},
    {("p",): (True, ("p", "p", "p"))}, EDGE, EDGE.lines, list(STATES), {"p": True},
)


class Lines(unittest.TestCase):
    def refused(self, lines, index):
        with self.assertRaises(ParseError) as caught:
            Camp.from_lines(*lines)
        self.assertEqual(caught.exception.number, index)

    def test_lines_that_are_none(self):
        for at in range(5):
            for value in NO_LINES:
                lines = EDGE.lines[:at] + (value,) + EDGE.lines[at:]
                self.refused(lines, at)
                self.refused(lines + (None,), at)

    def test_a_line_twice(self):
        for camp in samples.camps(sizes=(1, 2, 3)):
            for at, line in enumerate(camp.lines):
                for where in range(len(camp.lines) + 1):
                    lines = camp.lines[:where] + (line,) + camp.lines[where:]
                    self.refused(lines, max(at + (where <= at), where))
        for line in ("width 4", "first q", "first z", "state p out of q q q", "state q in of p p"):
            self.refused(EDGE.lines + (line,), 4)
        self.refused(EDGE.lines + ("first p", None), 4)
        self.refused(("width 4", "first z", "state q in of p p", "first z"), 3)

    def test_a_line_left_out(self):
        for camp in samples.camps(sizes=(1, 2, 3, 26)):
            for at, line in enumerate(camp.lines):
                rest = camp.lines[:at] + camp.lines[at + 1:]
                others = {state: entry for state, entry in camp.states.items() if at < 2 or line[6] != state}
                is_asked_for = at >= 2 and (line[6] == camp.first or any(line[6] in row for _, row in others.values()))
                if at < 2 or is_asked_for:
                    with self.assertRaises(InvalidCamp) as caught:
                        Camp.from_lines(*rest)
                    self.assertIs(type(caught.exception), InvalidCamp)
                else:
                    self.assertEqual(Camp.from_lines(*rest).states, others)

    def test_lines_of_no_camp(self):
        for lines in ((), ("width 3",), ("width 3", "first p"), ("first p",), ("width 3", "first z", *EDGE.lines[2:]),
                      ("width 4", *EDGE.lines[1:]), (*EDGE.lines, "state r in of p p"),
                      (*EDGE.lines, "state r in of p p z"), EDGE.lines[1:], EDGE.lines[2:]):
            self.assertRaises(InvalidCamp, Camp.from_lines, *lines)
        self.assertEqual(len(Camp.from_lines(*EDGE.lines, "state r in of p p r")), 3)

    def test_26_states(self):
        lines = ["width 2", "first a"] + [f"state {letter} in of a a" for letter in samples.LETTERS]
        self.assertEqual(len(Camp.from_lines(*lines)), 26)


class Wrong(Refusal, unittest.TestCase):
    GOOD = {
        "width": 3, "states": STATES, "place": 2, "other": FLIP, "seat": (0, 1), "order": 2, "index": 3,
        "book": MAJ, "kind": "a", "camp": FLIP, "any order": 10 ** 50, "below": 1000, "value": None,
    }
    WRONG = {
        "width": (plain.WRONG_WIDTHS, InvalidNumber),
        "states": (NO_STATES, InvalidCamp),
        "place": (plain.ODD_VALUES + plain.LONG_INTEGERS + plain.FULL_INTEGERS + (
            True, False, -1, 3, 4, "0", (0,), [0]), InvalidNumber),
        "other": (NO_CAMPS, InvalidOperation),
        "seat": (NO_SEATS, InvalidSeat),
        "order": (samples.NO_ORDERS, InvalidNumber),
        "index": (plain.ODD_VALUES + plain.LONG_INTEGERS + plain.FULL_INTEGERS + (
            True, False, -1, 4, 5, "0", (0,), [0]), InvalidNumber),
        "book": (samples.NO_BOOKS, InvalidBook),
        "kind": (samples.NO_KINDS, UnknownName),
        "camp": (NO_CAMPS, InvalidCamp),
        "any order": (plain.ODD_VALUES + plain.LONG_INTEGERS + (
            True, False, -1, 1 - 10 ** 400, "0", (0,), [0]), InvalidNumber),
        "below": (samples.NO_ORDERS[:-12] + (True, False, -1, 1001, 10 ** 30, "0", (0,), [0]), InvalidNumber),
    }
    CALLS = (
        (lambda width, states: Camp(width, "p", states), ("width", "states")),
        (Camp.all_seats, ("width",)),
        (EDGE.part, ("place",)),
        (EDGE.common, ("other",)),
        (EDGE.merged, ("other",)),
        (EDGE.has, ("seat",)),
        (EDGE.size, ("order",)),
        (EDGE.seat_at, ("order", "index")),
        (EDGE.ahead_of, ("seat",)),
        (EDGE.is_same, ("value",)),
        (holds_at, ("book", "kind", "camp", "any order")),
        (pattern_of, ("book", "kind", "camp")),
        (holding_orders, ("book", "kind", "camp", "below")),
    )

    def test_the_first_state_is_one_of_the_states(self):
        for value in tuple(samples.VALUES) + ("r", "P", "pp", "", ("p",), ["p"], 0):
            self.refused(Camp, (3, value, STATES), InvalidCamp)
            self.refused(Camp, (6, value, STATES), InvalidNumber, 6)
        self.assertEqual(Camp(3, "q", STATES).first, "q")
        self.refused(Camp, (3, "p", {letter: (True, ("p",) * 3) for letter in samples.LETTERS + "P"}), InvalidCamp)

    def test_seats_of_200_places_are_the_longest(self):
        self.assertIs(EDGE.has((0,) * 200), True)
        self.assertEqual(EDGE.ahead_of((1,) * 200), 2 ** 200 - 1)
        for method in (EDGE.has, EDGE.ahead_of):
            self.refused(method, ((0,) * 201,), InvalidSeat)

    def test_what_follows_is_checked_ahead_of_what_has_too_many_rounds(self):
        self.refused(holds_at, (MAJ, "a", EDGE, -1), InvalidNumber, -1)
        self.refused(EDGE.common, (Camp.all_seats(2),), InvalidOperation)


class Kept(unittest.TestCase):
    def test_any_value_can_be_compared_and_sought(self):
        for value in samples.VALUES + NO_SEATS + NO_LINES:
            self.assertIs(EDGE == value, value is EDGE)
            self.assertIs(EDGE != value, value is not EDGE)
            self.assertIs(value in EDGE, value == (0,) and isinstance(value, tuple))
            self.assertIs(EDGE.is_same(value), value is EDGE)
        for value in ((), (0,), (1, 1), (0,) * 200):
            self.assertIs(value in EDGE, True)
        for value in ((2,), (0, 2), (0,) * 201, (True,), (1, True)):
            self.assertIs(value in EDGE, False)

    def test_unlike_camps(self):
        for one, other in itertools.combinations(samples.camps(sizes=(1, 2, 3)), 2):
            self.assertIs(one == other, one.lines == other.lines)

    def test_a_camp_is_not_iterated_over(self):
        for function in (iter, list, tuple, set):
            self.assertRaises(TypeError, function, EDGE)


if __name__ == "__main__":
    unittest.main()
