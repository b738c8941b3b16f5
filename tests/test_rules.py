"""Rules against plain looks at all sets of places: points 0.7, 0.11 and 3.1."""

import itertools
import random
import unittest

from grownquorums.base.sets import blocks_of
from grownquorums.books import rules
from grownquorums.books.rules import MAX_WIDTH, MIN_WIDTH, Rule
from grownquorums.errors import InvalidNumber, InvalidOperation, InvalidRule, InvalidSet, ParseError
from tests import plain, samples
from tests.refusal import Refusal

NO_ROWS = samples.VALUES[:-1] + (
    (), ("a",), ("a", "b", "c", "d", "e", "f"), ["a", "b", "c"], "abc", ("a", "b", "C"), ("a", "b", ""), ("a", "b", 1),
    ("a", "b", None), ("a", "bc", "d"), ("a", "b", ("c",)), {"a": 1, "b": 2, "c": 3}, ("a", "~"), ("a", ["b"]),
)
NO_ROWS = tuple(value for value in NO_ROWS if value != ("a", "b"))

GOOD_FAMILY = ((0, 1), (0, 2))
NO_FAMILIES = tuple(value for value in samples.VALUES if value != ((0, 1),)) + (
    (), ((),), ((0,), ()), [(0,)], ((3,),), ((0, 3),), ((1,), (0,)), ((0,), (0,)), ((0,), (0, 1)), ((True,),),
    ((0, True),), ((0, 0),), ((1, 0),), ((0,), [1]), ((0,), None), "01 02",
)

NO_PLACES = tuple(value for value in samples.VALUES if value != (0,)) + (
    (3,), (-1,), (0, 3), (1, 0), (0, 0), (True,), (0, True), [0], "0", {0: 1}, (0, None), (10 ** 400,), ((0,),),
)

NO_TURNS = samples.VALUES + (
    (), (0, 1), (0, 1, 2, 3), (0, 0, 1), (1, 2, 3), (-1, 0, 1), (0, 1, True), (False, 1, 2), [0, 1, 2], "012",
)

NO_RENAMINGS = tuple(value for value in samples.VALUES) + (
    {"s": "a"}, {"t": "a"}, {"s": "a", "t": "b", "u": "c"}, {"s": "a", "u": "b"}, {"s": "a", "t": "B"},
    {"s": "a", "t": 1}, {"s": "a", "t": None}, {"s": "a", "t": ["b"]}, {"s": "a", "t": "bc"}, {"s": "a", 1: "b"},
    {"s": "a", None: "b"}, {"s": "a", ("t",): "b"}, [("s", "a"), ("t", "b")], ("s", "t"),
)

NO_RULE_TEXTS = samples.VALUES + (
    "of s t t least", "of s t t least ", "of s t t", "of s t t 01", "of  s t t least 01", "of s t t  least 01",
    "of s t t least  01", "of s t t least 01 ", " of s t t least 01", "of s t t least 03", "of s t t least 10",
    "of s t t least 02 01", "of s t t least 01 01", "of s t t least 0 01", "of s least 0", "of a b c d e f least 0",
    "Of s t t least 01", "of S t t least 01", "of s tt least 01", "of s t t Least 01", "of s,t,t least 01",
    "of s t t least 01\n", "of s t t least\n01", "of s t t least 01 least 02", "of least 0", "least 0",
    "s t t least 01", "rule of s t t least 01", "of s t t least -1", "of s t t least 0,1", "of s t t least least 01",
    "of s t 1 least 01", "of s t t least 01 of s t t least 01", "a" * 8000, "of " + "a " * 3998, "\n" * 8000,
)


def rule_of():
    return Rule(("s", "t", "t"), GOOD_FAMILY)


class Example(unittest.TestCase):
    def test_the_examples_of_the_document(self):
        rule = Rule(("s", "t", "t"), ((0, 1), (0, 2), (1, 2)))
        self.assertEqual(
            [str(rule), rule.holds((0, 2)), rule.holds(()), rule.dual() == rule, str(rule.permuted((2, 0, 1))),
             rule[0], (1, 2) in rule],
            ["of s t t least 01 02 12", True, False, True, "of t t s least 01 02 12", "s", True])
        star = Rule.from_text("of a b b c least 01 02")
        self.assertEqual(
            [star.used, star.made_of, str(star.dual()), star.least_in((0, 1, 3)), star.width, len(star)],
            [(0, 1, 2), ("a", "b"), "of a b b c least 0 12", ((0, 1),), 4, 2])

    def test_constants_and_names(self):
        self.assertEqual((MIN_WIDTH, MAX_WIDTH), (2, 5))
        self.assertEqual(Rule.__module__, "grownquorums.books.rules")
        for name in ("from_text", "width", "row", "family", "used", "made_of", "holds", "least_in", "dual", "permuted",
                     "renamed", "__getitem__", "__contains__", "__len__", "__iter__", "__eq__", "__str__"):
            self.assertIn(name, vars(rules.Rule))


def some_rules():
    chosen = random.Random(11)
    for width in plain.WIDTHS:
        for family in samples.families(width) if width < 4 else chosen.sample(samples.families(width), 120):
            for kinds in ("a", "ab", samples.LETTERS):
                yield Rule(tuple(chosen.choices(kinds, k=width)), family)


class PlainLooks(unittest.TestCase):
    def test_properties(self):
        for rule in some_rules():
            used = sorted({place for least in rule.family for place in least})
            self.assertEqual(rule.width, len(rule.row))
            self.assertEqual(rule.used, tuple(used))
            self.assertEqual(rule.made_of, tuple(sorted({rule.row[place] for place in used})))
            self.assertEqual(len(rule), len(rule.family))
            self.assertEqual(tuple(rule), rule.family)
            self.assertEqual(list(iter(rule)), list(rule.family))
            self.assertEqual([rule[place] for place in range(rule.width)], list(rule.row))
            self.assertEqual(str(rule), f"of {' '.join(rule.row)} least {plain.text_of(rule.family)}")
            self.assertEqual(Rule(rule.row, rule.family), rule)
            back = Rule.from_text(str(rule))
            self.assertEqual((back.row, back.family, back), (rule.row, rule.family, rule))
            self.assertIs(type(back), Rule)

    def test_all_sets_of_places(self):
        for rule in some_rules():
            for places in plain.all_places(rule.width):
                least = tuple(one for one in rule.family if set(one) <= set(places))
                self.assertIs(rule.holds(places), bool(least))
                self.assertEqual(rule.least_in(places), least)

    def test_dual(self):
        for rule in some_rules():
            every = set(range(rule.width))
            dual = rule.dual()
            self.assertEqual(dual.row, rule.row)
            self.assertEqual(dual.family, blocks_of(rule.width, rule.family))
            for places in plain.all_places(rule.width):
                rest = tuple(sorted(every - set(places)))
                self.assertIs(dual.holds(places), not rule.holds(rest))
            self.assertEqual(dual.dual(), rule)

    def test_permuted(self):
        for rule in list(some_rules())[::9]:
            for turns in itertools.permutations(range(rule.width)):
                turned = rule.permuted(turns)
                for place in range(rule.width):
                    self.assertEqual(turned[turns[place]], rule[place])
                self.assertEqual(set(map(frozenset, turned)),
                                 {frozenset(turns[place] for place in least) for least in rule})
                back = tuple(turns.index(place) for place in range(rule.width))
                self.assertEqual(turned.permuted(back), rule)
                shift = tuple((place + 1) % rule.width for place in range(rule.width))
                self.assertEqual(turned.permuted(shift), rule.permuted(tuple(shift[turn] for turn in turns)))

    def test_renamed(self):
        chosen = random.Random(12)
        for rule in some_rules():
            kinds = sorted(set(rule.row))
            for letters in ("q", samples.LETTERS):
                names = {kind: chosen.choice(letters) for kind in kinds[::-1]}
                other = rule.renamed(names)
                self.assertEqual(other.row, tuple(names[kind] for kind in rule.row))
                self.assertEqual(other.family, rule.family)
            self.assertEqual(rule.renamed({kind: kind for kind in kinds}), rule)
            for wrong in ({}, {kind: "a" for kind in kinds[1:]}, {**{kind: "a" for kind in kinds}, "A": "a"}):
                self.assertRaises(InvalidOperation, rule.renamed, wrong)
            more = [letter for letter in samples.LETTERS if letter not in kinds][0]
            self.assertRaises(InvalidOperation, rule.renamed, {**{kind: "a" for kind in kinds}, more: "a"})


class Texts(unittest.TestCase):
    def bent(self, text):
        words = text.split(" ")
        for at in range(len(words) + 1):
            for word in ("a", "of", "least", "0", "12", "", "A", "5"):
                yield " ".join(words[:at] + [word] + words[at:])
                yield " ".join(words[:at] + [word] + words[at + 1:])
            yield " ".join(words[:at] + words[at + 1:])
        for at in range(len(text) + 1):
            for sign in "az05 ,\n-":
                yield text[:at] + sign + text[at:]
                yield text[:at] + sign + text[at + 1:]
            yield text[:at] + text[at + 1:]

    def test_bent_texts(self):
        words = ["of"] + ["x"] * 5 + ["least"]
        self.assertEqual(len(words), 7)
        for rule in list(some_rules())[::7]:
            for text in self.bent(str(rule)):
                row, family = self.plain_look(text)
                if row is None:
                    with self.assertRaises(ParseError) as caught:
                        Rule.from_text(text)
                    self.assertIsNone(caught.exception.number)
                else:
                    found = Rule.from_text(text)
                    self.assertEqual((found.row, found.family, str(found)), (row, family, text))

    def plain_look(self, text):
        """The row and the family, by trying to write them again."""
        words = text.split(" ")
        if "least" not in words:
            return None, None
        at = words.index("least")
        row, sets = words[1:at], words[at + 1:]
        if not 2 <= len(row) <= 5 or any(len(kind) != 1 or kind not in samples.LETTERS for kind in row):
            return None, None
        places = "".join(str(place) for place in range(len(row)))
        if not sets or any(not one or any(sign not in places for sign in one) for one in sets):
            return None, None
        family = tuple(tuple(int(sign) for sign in one) for one in sets)
        least = plain.family_of(len(row), plain.table_of(len(row), family))
        if words[0] != "of" or least != family:
            return None, None
        return tuple(row), family


class Wrong(Refusal, unittest.TestCase):
    GOOD = {
        "row": ("s", "t", "t"), "family": GOOD_FAMILY, "places": (0, 2), "turns": (2, 0, 1),
        "kinds": {"s": "a", "t": "b"}, "place": 2, "text": "of s t t least 01 02",
    }
    WRONG = {
        "row": (NO_ROWS, InvalidRule),
        "family": (NO_FAMILIES, InvalidRule),
        "places": (NO_PLACES, InvalidSet),
        "turns": (NO_TURNS, InvalidOperation),
        "kinds": (NO_RENAMINGS, InvalidOperation),
        "place": (tuple(value for value in samples.VALUES if value not in (0, 1) or isinstance(value, bool))
                  + (-3, 4, "0", (2,)), InvalidNumber),
        "text": (NO_RULE_TEXTS, ParseError),
    }
    CALLS = (
        (Rule, ("row", "family")),
        (Rule.from_text, ("text",)),
        (lambda places: rule_of().holds(places), ("places",)),
        (lambda places: rule_of().least_in(places), ("places",)),
        (lambda turns: rule_of().permuted(turns), ("turns",)),
        (lambda kinds: rule_of().renamed(kinds), ("kinds",)),
        (lambda place: rule_of()[place], ("place",)),
    )

    def test_the_family_has_places_of_the_row(self):
        for row in (("a", "b"), ("a", "b", "c"), ("a",) * 4, ("a",) * 5):
            self.assertEqual(Rule(row, ((len(row) - 1,),)).used, (len(row) - 1,))
            self.refused(Rule, (row, ((len(row),),)), InvalidRule)


class Kept(unittest.TestCase):
    def test_any_value_can_be_compared_and_sought(self):
        rule = Rule(("s", "t", "t"), ((0, 1), (2,)))
        for value in samples.VALUES + NO_ROWS + NO_FAMILIES:
            self.assertIs(rule == value, False)
            self.assertIs(value == rule, False)
            self.assertIs(rule != value, True)
            self.assertIs(value in rule, value in ("t", "s") or value == (0, 1))
        for value in ("s", "t", (0, 1), (2,)):
            self.assertIs(value in rule, True)
        for value in ((0, True), (False, 1), (0,), ((2,),), (2, 2), "a", "st", "01", "2", 2, (), [0, 1], "", None):
            self.assertIs(value in rule, False)

    def test_equal_rules(self):
        rule = rule_of()
        self.assertEqual(rule, rule_of())
        self.assertIs(rule != rule_of(), False)
        for other in (Rule(("s", "t", "u"), GOOD_FAMILY), Rule(("s", "t", "t"), ((0, 1),)),
                      Rule(("s", "t", "t", "t"), GOOD_FAMILY)):
            self.assertIs(rule == other, False)
            self.assertIs(rule != other, True)

    def test_a_rule_never_changes(self):
        rule = rule_of()
        kinds = {"s": "a", "t": "b"}
        rule.dual(), rule.permuted((2, 1, 0)), rule.renamed(kinds), rule.least_in((0, 1))
        self.assertEqual(kinds, {"s": "a", "t": "b"})
        self.assertEqual(rule, rule_of())
        for name in ("width", "row", "family", "used", "made_of"):
            self.assertRaises(AttributeError, setattr, rule, name, ())


if __name__ == "__main__":
    unittest.main()
