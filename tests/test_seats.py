"""Seats and crowds: points 0.9 and 5.1."""

import itertools
import random
import unittest

from grownquorums.errors import InvalidNumber, InvalidOperation, InvalidSeat, ParseError, TooMany
from grownquorums.seats import seats
from grownquorums.seats.seats import (
    MAX_ORDER, MAX_SEATS, crowd_of, each_crowd, is_crowd, is_seat, number_of, others_of, parts_of, read_seat, seat_at,
    under, write_seat,
)
from tests import plain, samples
from tests.refusal import Refusal, first_of

# The greatest orders with at most 4096 seats.
LAST_ORDERS = {2: 12, 3: 7, 4: 6, 5: 5}


def low_orders(limit):
    """All widths and orders with at most so many seats."""
    return [(width, order) for width in plain.WIDTHS for order in range(13) if width ** order <= limit]


class Example(unittest.TestCase):
    def test_the_examples_of_the_document(self):
        self.assertEqual(
            [number_of(3, 3, (0, 1, 2)), seat_at(3, 3, 5), seat_at(2, 200, 1)[-2:], write_seat(3, 3, (0, 1, 2)),
             read_seat(5, 0, "-")],
            [5, (0, 1, 2), (0, 1), "012", ()])
        self.assertEqual(
            [under(3, 4, (1, 2)), parts_of(3, 1, (0, 2)), parts_of(2, 2, (0, 1, 3)), crowd_of(2, 2, ((0, 1), (1,))),
             others_of(3, 1, (0, 2))],
            [(45, 9), ((0,), (), (0,)), ((0, 1), (1,)), (0, 1, 3), (1,)])
        self.assertEqual(
            [list(each_crowd(2, 1)), is_crowd(3, 1, (0, 3)), is_crowd(3, 1, (1, 0)), is_seat(3, 2, (0, 3))],
            [[(), (0,), (1,), (0, 1)], False, False, False])

    def test_constants_and_names(self):
        self.assertEqual((MAX_ORDER, MAX_SEATS), (200, 4096))
        for name in ("is_seat number_of seat_at write_seat read_seat under is_crowd parts_of crowd_of others_of "
                     "each_crowd").split():
            self.assertEqual(getattr(seats, name).__module__, "grownquorums.seats.seats")


class Seats(unittest.TestCase):
    def test_all_seats_of_low_orders(self):
        for width, order in low_orders(1024):
            for number, seat in enumerate(itertools.product(range(width), repeat=order)):
                text = "".join(map(str, seat)) or "-"
                self.assertIs(is_seat(width, order, seat), True)
                self.assertEqual(number_of(width, order, seat), number)
                self.assertEqual(seat_at(width, order, number), seat)
                self.assertEqual(write_seat(width, order, seat), text)
                self.assertEqual(read_seat(width, order, text), seat)

    def test_great_orders(self):
        chosen = random.Random(21)
        for width in plain.WIDTHS:
            for order in (13, 50, 199, 200):
                many = width ** order
                for number in (0, 1, width, many // 2, many - 2, many - 1, *[chosen.randrange(many) for _ in range(5)]):
                    seat = seat_at(width, order, number)
                    self.assertEqual(len(seat), order)
                    self.assertEqual(int("".join(map(str, seat)), width), number)
                    self.assertEqual(number_of(width, order, seat), number)
                    self.assertEqual(read_seat(width, order, write_seat(width, order, seat)), seat)
                for number in (many, many + 1, -1):
                    with self.assertRaises(InvalidNumber) as caught:
                        seat_at(width, order, number)
                    self.assertIs(caught.exception.value, number)

    def test_under_heads_of_every_length(self):
        for width, order in low_orders(300):
            every = samples.seats(width, order)
            for many in range(order + 1):
                for head in itertools.product(range(width), repeat=many):
                    numbers = [number for number, seat in enumerate(every) if seat[:many] == head]
                    self.assertEqual(under(width, order, head), (numbers[0], len(numbers)))
                    self.assertEqual(numbers, list(range(numbers[0], numbers[0] + len(numbers))))
        for width in plain.WIDTHS:
            last = (width - 1,) * 200
            for many in range(201):
                size = width ** (200 - many)
                self.assertEqual(under(width, 200, last[:many]), (width ** 200 - size, size))
            self.assertEqual(under(width, 200, ()), (0, width ** 200))
            self.assertRaises(InvalidSeat, under, width, 199, last)

    def test_what_is_no_seat(self):
        for width, order in low_orders(70):
            for length in range(4):
                for row in itertools.product(range(-1, 6), repeat=length):
                    is_one = length == order and all(0 <= place < width for place in row)
                    self.assertIs(is_seat(width, order, row), is_one)

    def test_texts_with_an_error(self):
        for width, order in ((2, 0), (2, 1), (3, 2), (5, 3)):
            known = {"".join(map(str, seat)) or "-" for seat in samples.seats(width, order)}
            for length in range(5):
                for signs in itertools.product("0124-5 ", repeat=length):
                    text = "".join(signs)
                    if text in known:
                        self.assertEqual(write_seat(width, order, read_seat(width, order, text)), text)
                        continue
                    with self.assertRaises(ParseError) as caught:
                        read_seat(width, order, text)
                    self.assertIsNone(caught.exception.number)


class Crowds(unittest.TestCase):
    def test_what_is_a_crowd(self):
        for width, order in ((2, 0), (2, 1), (3, 1), (2, 2), (5, 1)):
            known = set(samples.crowds(width, order))
            for length in range(5):
                for row in itertools.product(range(-1, 6), repeat=length):
                    self.assertIs(is_crowd(width, order, row), row in known)

    def test_parts_and_others_of_all_crowds(self):
        for width, order in low_orders(9):
            for crowd in samples.crowds(width, order):
                self.assertIs(is_crowd(width, order, crowd), True)
                rest = tuple(number for number in range(width ** order) if number not in crowd)
                self.assertEqual(others_of(width, order, crowd), rest)
                self.assertEqual(others_of(width, order, rest), crowd)
                if order > 0:
                    self.look_at_parts(width, order, crowd)

    def look_at_parts(self, width, order, crowd):
        held = samples.seats_of(width, order, crowd)
        below = samples.seats(width, order - 1)
        parts = tuple(
            tuple(number for number, seat in enumerate(below) if (place, *seat) in held) for place in range(width))
        self.assertEqual(parts_of(width, order, crowd), parts)
        self.assertEqual(crowd_of(width, order, parts), crowd)

    def test_crowds_of_higher_orders(self):
        chosen = random.Random(22)
        for width, order in low_orders(4096):
            many = width ** order
            for size in (0, 1, many // 2, many):
                crowd = tuple(sorted(chosen.sample(range(many), size)))
                self.assertIs(is_crowd(width, order, crowd), True)
                self.assertEqual(others_of(width, order, others_of(width, order, crowd)), crowd)
                self.assertEqual(len(others_of(width, order, crowd)), many - size)
                if order > 0:
                    self.look_at_parts(width, order, crowd)
                    self.assertEqual(crowd_of(width, order, parts_of(width, order, crowd)), crowd)
            self.assertIs(is_crowd(width, order, (many,)), False)
            self.assertIs(is_crowd(width, order, (0, 0)), False)

    def test_each_crowd_counts_up(self):
        for width, order in low_orders(9):
            self.assertEqual(list(each_crowd(width, order)), samples.crowds(width, order))

    def test_the_first_crowds_of_higher_orders(self):
        for width, order in ((2, 12), (3, 7), (4, 6), (5, 5)):
            found = list(itertools.islice(each_crowd(width, order), 3000))
            expected = [tuple(number for number in range(12) if bits >> number & 1) for bits in range(3000)]
            self.assertEqual(found, expected)

    def test_order_0_has_no_parts(self):
        for width in plain.WIDTHS:
            for value in ((), (0,), ((0,),), ((),), ((), ()), None):
                self.assertRaises(InvalidOperation, parts_of, width, 0, value)
                self.assertRaises(InvalidOperation, crowd_of, width, 0, value)
            self.assertEqual(others_of(width, 0, ()), (0,))
            self.assertEqual(list(each_crowd(width, 0)), [(), (0,)])


NO_SEATS = samples.VALUES + (
    (), (0, 1, 2), (0, 3), (0, -1), (0, True), (False, 0), (0, "1"), (0, None), (0, (1,)), [0, 1], "01", {0: 1},
    (0, 10 ** 400), (0, [1]), {0, 1},
)
NO_CROWDS = tuple(value for value in samples.VALUES if value != (0,)) + (
    (9,), (-1,), (0, 9), (1, 0), (0, 0), (0, 1, 1), (True,), (0, True), (False,), [0], [], "0", {0: 1}, (0, None),
    ((0,),), (0, "1"), (10 ** 400,), (0, [1]), range(2), tuple(range(10)),
)
NO_PARTS = samples.VALUES + (
    (), ((0,), (1,)), ((0,), (1,), (2,), (0,)), ((0,), (1,), (3,)), ((0,), (1,), (-1,)), ((0,), (1,), [2]),
    ((0,), (1,), None), ((0,), (1,), 2), [(0,), (1,), (2,)], ((0,), (1,), (1, 0)), ((0,), (1,), (0, 0)),
    ((True,), (1,), (2,)), {(0,): (1,)}, "012", ((0,), (1,), "2"), ((), (), ((),)),
)


class Wrong(Refusal, unittest.TestCase):
    GOOD = {
        "width": 3, "order": 2, "seat": (0, 1), "number": 8, "text": "02", "head": (2,), "crowd": (0, 8),
        "parts": ((0,), (), (1, 2)), "value": None,
    }
    WRONG = {
        "width": (plain.WRONG_WIDTHS, InvalidNumber),
        "order": (samples.NO_ORDERS, InvalidNumber),
        "seat": (NO_SEATS, InvalidSeat),
        "number": (plain.ODD_VALUES + plain.LONG_INTEGERS + plain.FULL_INTEGERS + (
            True, False, -1, 9, 10, "3", (3,), [3]), InvalidNumber),
        "text": (tuple(value for value in samples.VALUES if value != "01") + (
            "-", "03", "0", "000", "0 0", " 00", "00 ", "00\n", "-1", "0-", "a0", "0" * 8000, ("00",), ["00"], 0),
            ParseError),
        "head": (tuple(value for value in samples.VALUES if value != (0,)) + (
            (0, 0, 0), (3,), (-1,), (True,), [0], "0", (0, None), (0, (1,)), {0: 1}, (10 ** 400,)), InvalidSeat),
        "crowd": (NO_CROWDS, InvalidOperation),
        "parts": (NO_PARTS, InvalidOperation),
    }
    CALLS = (
        (is_seat, ("width", "order", "value")),
        (number_of, ("width", "order", "seat")),
        (seat_at, ("width", "order", "number")),
        (write_seat, ("width", "order", "seat")),
        (read_seat, ("width", "order", "text")),
        (under, ("width", "order", "head")),
        (is_crowd, ("width", "order", "value")),
        (parts_of, ("width", "order", "crowd")),
        (crowd_of, ("width", "order", "parts")),
        (others_of, ("width", "order", "crowd")),
        (first_of(each_crowd), ("width", "order")),
    )

    def test_judged_values(self):
        for value in NO_SEATS:
            self.assertIs(is_seat(3, 2, value), False)
        for value in NO_CROWDS:
            self.assertIs(is_crowd(3, 2, value), False)

    def test_too_many_seats_come_ahead_of_errors_of_crowds(self):
        for width, last in LAST_ORDERS.items():
            self.assertIs(is_crowd(width, last, (0, width ** last - 1)), True)
            self.assertIs(is_crowd(width, last, (width ** last,)), False)
            for order in (last + 1, 13, 200):
                for value in (None, (), (0,), (True,)):
                    for function in (is_crowd, parts_of, crowd_of, others_of):
                        self.refused(function, (width, order, value), TooMany, 4096)
                self.refused(first_of(each_crowd), (width, order), TooMany, 4096)
                self.assertIs(is_seat(width, order, (0,) * order), True)

    def test_a_generator_raises_when_its_first_result_is_asked_for(self):
        for values in ((1, 1), (2, -1), (2, 13)):
            each_crowd(*values)


if __name__ == "__main__":
    unittest.main()
