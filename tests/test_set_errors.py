"""Wrong values for sets and families: points 0.1, 0.2, 0.4, 0.5, and the errors of stage 2."""

import copy
import itertools
import unittest

from grownquorums.base.sets import (
    blocks_of, both, completed, either, is_family, is_held, is_set, least_of, placed, read_family, rest_of,
    write_family,
)
from grownquorums.errors import InvalidNumber, InvalidOperation, InvalidSet, ParseError
from tests.plain import FULL_INTEGERS, LONG_INTEGERS, ODD_VALUES, PLAIN_VALUES, WRONG_WIDTHS

WIDTH = 3

NUMBERS = FULL_INTEGERS + LONG_INTEGERS + (True, False, -1, 0, 1, 3)

# Tuples that hold what is no place of width 3, or places that do not ascend.
NO_PLACES = ODD_VALUES + NUMBERS + (
    "0", "01", [0], [0, 1], {0: 1}, (3,), (-1,), (0, 3), (-1, 0), (True,), (False,), (0, True), (False, 1), (None,),
    ("0",), ("a", "b"), (0, "1"), (0, None), (0, (1,)), (0, [1]), (1, 0), (0, 0), (0, 0, 1), (0, 2, 1),
    (0, 1, 2, 2), (0, 1, 2, 3), (10 ** 400,), (0, 10 ** 400), (7 ** 9000,), (-(10 ** 400), 0),
)
FAMILIES = (((0,),), ((0, 1), (0, 2)))

# What is no tuple of at least one set of width 3.
NO_SETS = NO_PLACES + (
    (), ((),), ((0,), ()), ([0],), ((0,), [1]), [(0,)], {(0,): 1}, ((3,),), ((0, 3),), ((0,), (1, 3)), ((1, 0),),
    ((0, 0),), ((True,),), ((0,), (True,)), ((0, True),), ((False,),), ((0,), (1,), None), ((0,), 1), ((0,), "1"),
    (("0",),), ("01", "02"), "01 02", (((0,),),), ((10 ** 400,),), ((-1,),), ((0,), (1, 10 ** 400)),
)

# Sets in order that contain one another, and sets that do not ascend.
NO_FAMILIES = NO_SETS + (
    ((0,), (0,)), ((0,), (0, 1)), ((0, 1), (0, 1, 2)), ((0,), (1,), (1, 2)), ((0, 1), (1,)), ((0, 1, 2), (1,)),
    ((0, 1), (0, 2), (0, 2)), ((1,), (0,)), ((0, 2), (0, 1)), ((1, 2), (0,)), ((0, 1), (1, 2), (0, 2)), ((1, 2), (0, 2), (0, 1)),
)

NO_TURNS = ODD_VALUES + NUMBERS + (
    "012", [0, 1, 2], {0: 0, 1: 1, 2: 2}, (), (0,), (0, 1), (0, 1, 2, 3), (1, 2, 3), (0, 0, 1), (2, 2, 2), (0, 1, 1),
    (-1, 0, 1), (0, 1, True), (False, 1, 2), (0, True, 2), (0, 1, "2"), (0, None, 2), ((0,), (1,), (2,)),
    (0, 1, 10 ** 400), (0, [1], 2), (0, 1, 2, 2), (0, 1, 2, 0),
)

NO_TEXTS = ODD_VALUES + NUMBERS + (
    (), ("01",), ["01"], ((0, 1),), "3", "03", "01 13", "10", "00", "0 0", "1 0", "0 01", "01 0", "02 01", " 01", "01 ",
    "01  02", "0 1 ", "01,02", "01\n02", "01\t02", "-1", "+1", "0 -1", "0.", "(0)", "\n01", "01\n", "0" * 8000,
    "0 " * 4000, " " * 8000, "01 " * 2000 + "01",
)

WRONG = {
    "width": (WRONG_WIDTHS, InvalidNumber),
    "places": (NO_PLACES + FAMILIES, InvalidSet),
    "sets": (NO_SETS, InvalidSet),
    "family": (NO_FAMILIES, InvalidSet),
    "turns": (NO_TURNS, InvalidOperation),
    "text": (NO_TEXTS, ParseError),
}

GOOD = {
    "width": WIDTH, "places": (0, 2), "sets": ((1,), (0, 1), (1,)), "family": ((0, 1), (0, 2)),
    "turns": (2, 0, 1), "text": "01 2",
}

# The kinds of the parameters of each function, in their order.
FUNCTIONS = (
    (least_of, ("width", "sets")),
    (is_held, ("width", "family", "places")),
    (rest_of, ("width", "places")),
    (blocks_of, ("width", "family")),
    (either, ("width", "family", "family")),
    (both, ("width", "family", "family")),
    (placed, ("width", "family", "turns")),
    (completed, ("width", "family")),
    (write_family, ("width", "family")),
    (read_family, ("width", "text")),
)


class Wrong(unittest.TestCase):
    def refused(self, function, values, error, told):
        with self.assertRaises(error) as caught:
            function(*values)
        self.assertIs(type(caught.exception), error)
        if error is InvalidNumber:
            self.assertIs(caught.exception.value, told)
        if error is ParseError:
            self.assertIsNone(caught.exception.number)

    def test_good_values_are_taken(self):
        for function, kinds in FUNCTIONS:
            function(*[GOOD[kind] for kind in kinds])

    def test_each_wrong_value(self):
        for function, kinds in FUNCTIONS:
            for at, kind in enumerate(kinds):
                values = [GOOD[kind] for kind in kinds]
                wrong, error = WRONG[kind]
                for value in wrong:
                    values[at] = value
                    with self.subTest(function=function.__name__, at=at):
                        self.refused(function, values, error, value)

    def test_of_several_wrong_values_the_first_one_decides(self):
        for function, kinds in FUNCTIONS:
            for pattern in itertools.product((False, True), repeat=len(kinds)):
                if sum(pattern) < 2:
                    continue
                first = pattern.index(True)
                error = WRONG[kinds[first]][1]
                choices = [WRONG[kind][0][::5] if bad else (GOOD[kind],) for kind, bad in zip(kinds, pattern)]
                for values in itertools.product(*choices):
                    self.refused(function, values, error, values[first])

    def test_sets_that_do_not_meet_come_last(self):
        apart = ((0,), (1,))
        self.refused(completed, (WIDTH, apart), InvalidOperation, None)
        self.refused(completed, (True, apart), InvalidNumber, True)
        self.refused(completed, (WIDTH, apart[::-1]), InvalidSet, None)


class Judged(unittest.TestCase):
    def test_no_sets(self):
        for value in NO_PLACES + FAMILIES + ((),):
            self.assertIs(is_set(WIDTH, value), False)

    def test_no_families(self):
        for value in NO_FAMILIES:
            self.assertIs(is_family(WIDTH, value), False)

    def test_only_the_width_is_refused(self):
        for function in (is_set, is_family):
            for width in WRONG_WIDTHS:
                for value in ((0,), ((0,),), None, (), [0], True, 10 ** 400):
                    with self.assertRaises(InvalidNumber) as caught:
                        function(width, value)
                    self.assertIs(caught.exception.value, width)

    def test_the_edges_of_the_width(self):
        for width in (2, 3, 4, 5):
            self.assertIs(is_set(width, (width - 1,)), True)
            self.assertIs(is_set(width, (width,)), False)
            self.assertIs(is_family(width, ((0,), (width - 1,))), True)
            self.assertIs(is_family(width, ((0,), (width,))), False)


class Unchanged(unittest.TestCase):
    def test_what_is_passed_stays_as_it_is(self):
        values = PLAIN_VALUES + (([0], {1: [2]}), ((0,), [1]), {0: ([0],)})
        before = copy.deepcopy(values)
        for value in values:
            self.assertEqual(is_set(WIDTH, value), is_set(WIDTH, value))
            self.assertEqual(is_family(WIDTH, value), is_family(WIDTH, value))
            for function, kinds in FUNCTIONS:
                with self.assertRaises(Exception):
                    function(*[value for _ in kinds])
                with self.assertRaises(Exception):
                    function(WIDTH, *[value for _ in kinds[1:]])
        self.assertEqual(values, before)

    def test_equal_calls_return_equal_results(self):
        for function, kinds in FUNCTIONS:
            values = [GOOD[kind] for kind in kinds]
            before = copy.deepcopy(values)
            self.assertEqual(function(*values), function(*values))
            self.assertEqual(values, before)


if __name__ == "__main__":
    unittest.main()
