"""Sets and families against plain looks at all sets of places: points 0.7, 0.11, 2.1 and 2.2."""

import itertools
import random
import unittest

from grownquorums.base import sets
from grownquorums.base.sets import (
    blocks_of, both, completed, either, is_family, is_held, is_set, least_of, placed, read_family, rest_of,
    write_family,
)
from grownquorums.errors import InvalidOperation, InvalidSet, ParseError
from tests import plain

FAMILIES = {width: plain.families(width) for width in plain.WIDTHS}
TABLES = {width: plain.tables(width) for width in plain.WIDTHS}

SIGNS = "0123456789 -+,a\n\t\u0661\u00b2"


def some_of(width, many, seed):
    """All families of small widths, and many of the greater ones."""
    families = FAMILIES[width]
    return families if len(families) <= many else random.Random(seed).sample(families, many)


def some_pairs(width, seed):
    """All pairs of small widths, and many of the greater ones."""
    places = range(len(FAMILIES[width]))
    if width <= 3:
        return list(itertools.product(places, places))
    chosen = random.Random(seed)
    return [(chosen.choice(places), chosen.choice(places)) for _ in range(3000)]


class Example(unittest.TestCase):
    def test_the_call_of_the_example_that_passes_no_family(self):
        # The document's example passes these sets in this order; its sentences call them no family.
        with self.assertRaises(InvalidSet):
            both(3, ((0, 1),), ((1, 2), (0,)))

    def test_the_example_of_the_document(self):
        self.assertEqual(
            [blocks_of(3, ((0, 1), (0, 2))), least_of(3, ((0, 1), (1,), (0, 2), (1, 2))),
             is_held(3, ((0, 1), (2,)), (0, 2)), rest_of(4, (1, 3))],
            [((0,), (1, 2)), ((0, 2), (1,)), True, (0, 2)])
        self.assertEqual(
            [either(3, ((0, 1),), ((1,),)), both(3, ((0, 1),), ((0,), (1, 2))), placed(3, ((0, 1),), (2, 0, 1)),
             len(completed(2, ((0, 1),)))],
            [((1,),), ((0, 1),), ((0, 2),), 1])
        self.assertEqual(
            [write_family(3, ((0, 1), (0, 2), (1, 2))), read_family(4, "02 13"), is_family(3, ((0,), (0, 1))),
             is_set(2, ())],
            ["01 02 12", ((0, 2), (1, 3)), False, False])

    def test_names_are_defined_here(self):
        names = ("is_set is_family least_of is_held rest_of blocks_of either both placed completed "
                 "write_family read_family")
        for name in names.split():
            self.assertEqual(getattr(sets, name).__module__, "grownquorums.base.sets")


class Judged(unittest.TestCase):
    def test_there_are_as_many_families_as_is_known(self):
        self.assertEqual([len(FAMILIES[width]) for width in plain.WIDTHS], [4, 18, 166, 7579])

    def test_all_families(self):
        for width in plain.WIDTHS:
            for family in FAMILIES[width]:
                self.assertIs(is_family(width, family), True)

    def test_sets_are_ascending_rows_of_places(self):
        for width in plain.WIDTHS:
            known = set(plain.all_sets(width))
            for many in range(4):
                for row in itertools.product(range(-1, 6), repeat=many):
                    self.assertIs(is_set(width, row), row in known, (width, row))
            for row in known:
                self.assertIs(is_set(width, row), True)

    def test_families_are_ascending_rows_of_sets(self):
        for width in (2, 3):
            known = set(FAMILIES[width])
            rows = [row for many in range(5) for row in itertools.product(plain.all_places(width), repeat=many)]
            for row in rows:
                self.assertIs(is_family(width, row), row in known, (width, row))

    def test_a_set_too_many_makes_no_family(self):
        for width in (4, 5):
            known = set(FAMILIES[width])
            for family in some_of(width, 200, 1):
                for places in plain.all_places(width):
                    row = tuple(sorted(family + (places,)))
                    self.assertIs(is_family(width, row), row in known, (width, row))

    def test_families_of_wider_books_are_none(self):
        for width in (2, 3, 4):
            known = set(FAMILIES[width])
            for family in FAMILIES[width + 1]:
                self.assertIs(is_family(width, family), family in known)


class Least(unittest.TestCase):
    def test_all_tuples_of_sets_of_small_widths(self):
        for width in (2, 3):
            for many in range(1, 4):
                for row in itertools.product(plain.all_sets(width), repeat=many):
                    self.assertEqual(least_of(width, row), plain.family_of(width, plain.table_of(width, row)))

    def test_any_order_and_repeats(self):
        chosen = random.Random(2)
        for width in plain.WIDTHS:
            every = plain.all_sets(width)
            for _ in range(500):
                row = tuple(chosen.choices(every, k=chosen.randrange(1, 40)))
                self.assertEqual(least_of(width, row), plain.family_of(width, plain.table_of(width, row)))

    def test_families_stay(self):
        for width in plain.WIDTHS:
            for family in FAMILIES[width]:
                self.assertEqual(least_of(width, family[::-1] + family), family)

    def test_many_repeats(self):
        self.assertEqual(least_of(5, ((0, 1), (1,), (0, 4)) * 3000), ((0, 4), (1,)))


class Held(unittest.TestCase):
    def test_all_places(self):
        for width in plain.WIDTHS:
            for family in some_of(width, 700, 3):
                table = plain.table_of(width, family)
                for bits, places in enumerate(plain.all_places(width)):
                    self.assertIs(is_held(width, family, places), table >> bits & 1 == 1)

    def test_rest(self):
        for width in plain.WIDTHS:
            for bits, places in enumerate(plain.all_places(width)):
                rest = plain.places_of(width, 2 ** width - 1 - bits)
                self.assertEqual(rest_of(width, places), rest)
                self.assertEqual(rest_of(width, rest), places)


class Blocks(unittest.TestCase):
    def test_least_sets_that_meet_all(self):
        for width in plain.WIDTHS:
            for family in FAMILIES[width]:
                meeting = [one for one in plain.all_sets(width) if all(set(one) & set(least) for least in family)]
                least = [one for one in meeting if not any(set(other) < set(one) for other in meeting)]
                self.assertEqual(blocks_of(width, family), tuple(sorted(least)))

    def test_holds_where_the_rest_does_not_hold_the_family(self):
        for width in plain.WIDTHS:
            for table, family in zip(TABLES[width], FAMILIES[width]):
                dual = plain.dual_table(width, table)
                self.assertEqual(blocks_of(width, family), plain.family_of(width, dual))

    def test_dual_of_the_dual(self):
        for width in plain.WIDTHS:
            for family in FAMILIES[width]:
                self.assertEqual(blocks_of(width, blocks_of(width, family)), family)


class Joined(unittest.TestCase):
    def test_either(self):
        for width in plain.WIDTHS:
            for one, other in some_pairs(width, 4):
                expected = plain.family_of(width, TABLES[width][one] | TABLES[width][other])
                self.assertEqual(either(width, FAMILIES[width][one], FAMILIES[width][other]), expected)

    def test_both(self):
        for width in plain.WIDTHS:
            for one, other in some_pairs(width, 5):
                expected = plain.family_of(width, TABLES[width][one] & TABLES[width][other])
                self.assertEqual(both(width, FAMILIES[width][one], FAMILIES[width][other]), expected)

    def test_with_itself_and_with_nothing_new(self):
        for width in plain.WIDTHS:
            for family in some_of(width, 300, 6):
                self.assertEqual(either(width, family, family), family)
                self.assertEqual(both(width, family, family), family)
                self.assertEqual(either(width, family, (tuple(range(width)),)), family)
                self.assertEqual(both(width, family, tuple((place,) for place in range(width))), family)

    def test_both_refuses_sets_that_do_not_ascend(self):
        for family in FAMILIES[3]:
            for row in itertools.permutations(family):
                if row == family:
                    continue
                for pair in ((row, family), (family, row), (row, row)):
                    self.assertRaises(InvalidSet, both, 3, *pair)
                    self.assertRaises(InvalidSet, either, 3, *pair)


class Placed(unittest.TestCase):
    def test_each_order_of_places(self):
        for width in plain.WIDTHS:
            for turns in itertools.permutations(range(width)):
                for family in some_of(width, 40, 8):
                    turned = [{turns[place] for place in one} for one in family]
                    expected = tuple(sorted(tuple(sorted(one)) for one in turned))
                    self.assertEqual(placed(width, family, turns), expected)

    def test_back_again(self):
        for turns in itertools.permutations(range(4)):
            back = tuple(turns.index(place) for place in range(4))
            for family in FAMILIES[4]:
                self.assertEqual(placed(4, placed(4, family, turns), back), family)


class Completed(unittest.TestCase):
    def check(self, width, family):
        found = completed(width, family)
        table = plain.table_of(width, found)
        self.assertEqual(found, plain.family_of(width, table))
        self.assertEqual(table, plain.dual_table(width, table))
        for one in family:
            self.assertTrue(any(set(least) <= set(one) for least in found))

    def test_every_family(self):
        counts = []
        for width in plain.WIDTHS:
            meet = [all(set(one) & set(other) for one in family for other in family) for family in FAMILIES[width]]
            counts.append(sum(meet))
            for family, does_meet in zip(FAMILIES[width], meet):
                if does_meet:
                    self.check(width, family)
                    continue
                with self.assertRaises(InvalidOperation) as caught:
                    completed(width, family)
                self.assertIs(type(caught.exception), InvalidOperation)
        self.assertEqual(counts, [3, 11, 80, 2645])

    def test_own_duals_stay(self):
        counts = []
        for width in plain.WIDTHS:
            own = [plain.family_of(width, table) for table in TABLES[width] if table == plain.dual_table(width, table)]
            counts.append(len(own))
            for family in own:
                self.assertEqual(completed(width, family), family)
        self.assertEqual(counts, [2, 4, 12, 81])


class Texts(unittest.TestCase):
    def test_texts_of_all_families(self):
        for width in plain.WIDTHS:
            for family in FAMILIES[width]:
                text = plain.text_of(family)
                self.assertEqual(write_family(width, family), text)
                self.assertEqual(read_family(width, text), family)

    def edits(self, text):
        """The texts with a sign put in, left out, exchanged for another or for the next one."""
        for at in range(len(text) + 1):
            for sign in SIGNS:
                yield text[:at] + sign + text[at:]
                yield text[:at] + sign + text[at + 1:]
            yield text[:at] + text[at + 1:]
            yield text[:at] + text[at:at + 2][::-1] + text[at + 2:]

    def test_texts_with_an_error(self):
        for width in plain.WIDTHS:
            known = {plain.text_of(family): family for family in FAMILIES[width]}
            for family in some_of(width, 166, 9):
                for text in self.edits(plain.text_of(family)):
                    if text in known:
                        self.assertEqual(read_family(width, text), known[text])
                        continue
                    with self.assertRaises(ParseError) as caught:
                        read_family(width, text)
                    self.assertIsNone(caught.exception.number)

    def test_texts_of_wider_books(self):
        for width in (2, 3, 4):
            for family in FAMILIES[width + 1]:
                if max(place for one in family for place in one) == width:
                    self.assertRaises(ParseError, read_family, width, plain.text_of(family))


if __name__ == "__main__":
    unittest.main()
