"""Books: points 0.8, 0.11 and 4.1."""

import itertools
import random
import unittest

from grownquorums.books import books
from grownquorums.books.books import MAX_KINDS, MAX_ORDER, Book
from grownquorums.books.rules import Rule
from grownquorums.errors import InvalidBook, InvalidNumber, ParseError, UnknownName
from tests import plain, samples
from tests.refusal import Refusal
from tests.samples import FREE, MAJ, TREE

NO_LINES = samples.VALUES + (
    "width", "width ", "width  3", " width 3", "width 3 ", "width 1", "width 6", "width 0", "width 10", "width -3",
    "width 03", "width +3", "width a", "width three", "Width 3", "width3", "width 3\n", "width 33", "with 3",
    "kind a of a a a least", "kind of a a a least 01", "kind a a a a least 01", "a of a a a least 01", "kind",
    "kind A of a a a least 01", "kind aa of a a a least 01", "kind  a of a a a least 01", "kind a  of a a a least 01",
    " kind a of a a a least 01", "kind a of a a a least 01 ", "kind a of a a a least 03", "kind a of a a a least 10",
    "kind a of a a a least 0 01", "kind a of a least 0", "kind a of a a a a a a least 0", "kind a of A a a least 0",
    "kind a of a a a least 02 01", "kind a", "kind ", "kind a ", "kind a of", "kinds a of a a a least 01",
    "of a a a least 01", "Kind a of a a a least 01", "kind 1 of a a a least 01", "kind a: of a a a least 01",
    "kind a of a a a least 01\nkind b of a a a least 01", ("width 3",), ["width 3"], "kind a of a a a most 01",
)


def rule(text):
    return Rule.from_text(text)


class Example(unittest.TestCase):
    def test_the_examples_of_the_document(self):
        self.assertEqual(
            [str(TREE), TREE.kinds, TREE.lines, TREE["s"].family, "kind s of s s s least 0" in TREE,
             TREE.needed("t"), TREE.needed("s")],
            ["book of 2 kinds, width 3", ("s", "t"),
             ("width 3", "kind s of s s s least 0", "kind t of s t t least 01 02 12"), ((0,),), True, ("s", "t"),
             ("s",)])
        self.assertEqual(
            [FREE.dual().lines[3], FREE.dual().dual() == FREE, FREE.part("w").lines, TREE.joined(MAJ).kinds],
            ["kind w of w w w least 0 1 2", True, ("width 3", "kind w of w w w least 012"), ("a", "s", "t")])
        with self.assertRaises(InvalidBook):
            TREE.without("s")

    def test_constants_and_names(self):
        self.assertEqual((MAX_KINDS, MAX_ORDER), (6, 200))
        self.assertEqual(Book.__module__, "grownquorums.books.books")
        for name in ("from_lines", "width", "kinds", "rules", "lines", "with_line", "without", "needed", "part", "dual",
                     "joined", "__getitem__", "__contains__", "__len__", "__iter__", "__eq__", "__str__"):
            self.assertIn(name, vars(books.Book))


def needed_by_walking(book, kind):
    """All kinds that some walk along used places comes to."""
    found = {kind}
    while True:
        more = {book.rules[one].row[place] for one in found for least in book.rules[one].family for place in least}
        if more <= found:
            return tuple(sorted(found))
        found |= more


class PlainLooks(unittest.TestCase):
    def test_properties(self):
        for book in samples.books(sizes=range(1, 7)):
            rules = book.rules
            self.assertEqual(book.kinds, tuple(sorted(rules)))
            self.assertEqual(list(rules), sorted(rules))
            lines = (f"width {book.width}", *[f"kind {kind} {rules[kind]}" for kind in sorted(rules)])
            self.assertEqual(book.lines, lines)
            self.assertEqual((len(book), list(book), tuple(book)), (len(rules), list(book.kinds), book.kinds))
            self.assertEqual(str(book), f"book of {len(rules)} kinds, width {book.width}")
            self.assertEqual([book[kind] for kind in book], [rules[kind] for kind in book.kinds])
            again = Book(book.width, {kind: rules[kind] for kind in book.kinds[::-1]})
            self.assertEqual((again.lines, again.kinds, list(again.rules)), (book.lines, book.kinds, list(rules)))
            self.assertIs(again == book, True)
            self.assertIs(again != book, False)
            for value in book.kinds + lines:
                self.assertIs(value in book, True)

    def test_one_kind(self):
        self.assertEqual(str(MAJ), "book of 1 kinds, width 3")

    def test_needed(self):
        unlike = 0
        for book in samples.books(sizes=range(1, 7), seeds=8):
            for kind in book:
                needed = book.needed(kind)
                self.assertEqual(needed, needed_by_walking(book, kind))
                unlike += needed != book.kinds
        self.assertGreater(unlike, 50)

    def test_needed_far_away(self):
        kinds = "abcdef"
        lines = [f"kind {one} of {two} {one} least 0" for one, two in zip(kinds, kinds[1:] + "f")]
        book = Book.from_lines("width 2", *lines)
        for at, kind in enumerate(kinds):
            self.assertEqual(book.needed(kind), tuple(kinds[at:]))
        turned = Book.from_lines("width 2", *[line.replace("least 0", "least 1") for line in lines])
        for kind in kinds:
            self.assertEqual(turned.needed(kind), (kind,))

    def test_part(self):
        for book in samples.books(sizes=range(1, 7), seeds=4):
            for kind in book:
                part = book.part(kind)
                self.assertEqual(part.kinds, book.needed(kind))
                self.assertEqual(part.width, book.width)
                for one in part:
                    used = {place for least in book[one].family for place in least}
                    row = tuple(other if at in used else one for at, other in enumerate(book[one].row))
                    self.assertEqual((part[one].row, part[one].family), (row, book[one].family))
                self.assertEqual(part.part(kind), part)

    def test_dual(self):
        for book in samples.books(sizes=range(1, 7)):
            dual = book.dual()
            self.assertEqual((dual.width, dual.kinds), (book.width, book.kinds))
            for kind in book:
                self.assertEqual(dual[kind], book[kind].dual())
            self.assertEqual(dual.dual(), book)


class Changed(unittest.TestCase):
    def test_joined(self):
        for width in plain.WIDTHS:
            for one in range(1, 7):
                for other in range(1, 7):
                    first = samples.random_book(width, one, 1)
                    second = samples.random_book(width, other, 2)
                    before = (first.lines, second.lines)
                    if one + other > 6 or set(first.kinds) & set(second.kinds):
                        self.assertRaises(InvalidBook, first.joined, second)
                    else:
                        both = first.joined(second)
                        self.assertEqual(both.rules, {**first.rules, **second.rules})
                        self.assertEqual(both, second.joined(first))
                    self.assertEqual((first.lines, second.lines), before)

    def test_joined_with_six_kinds_and_with_seven(self):
        def book(kinds):
            return Book.from_lines("width 3", *[f"kind {kind} of {kind} {kind} {kind} least 0" for kind in kinds])
        self.assertEqual(book("abc").joined(book("def")).kinds, tuple("abcdef"))
        self.assertRaises(InvalidBook, book("abcd").joined, book("efg"))
        self.assertRaises(InvalidBook, book("abc").joined, book("cde"))
        self.assertRaises(InvalidBook, book("ab").joined, book("ab"))
        self.assertRaises(InvalidBook, book("abc").joined, samples.ROWS)

    def test_with_line(self):
        for book in samples.books(sizes=range(1, 7)):
            lines = book.lines
            for kind in "az" + "".join(book.kinds):
                line = f"kind {kind} of {' '.join([book.kinds[0]] * book.width)} least 1"
                rules = {**book.rules, kind: rule(line[7:])}
                if len(rules) > 6:
                    self.assertRaises(InvalidBook, book.with_line, line)
                    continue
                other = book.with_line(line)
                self.assertEqual((other.rules, other.width), (rules, book.width))
                self.assertIn(line, other)
            self.assertEqual(book.with_line(lines[0]), book)
            self.assertEqual(book.with_line(lines[-1]), book)
            for width in plain.WIDTHS:
                if width != book.width:
                    self.assertRaises(InvalidBook, book.with_line, f"width {width}")
            self.assertEqual(book.lines, lines)

    def test_with_line_of_no_such_book(self):
        for line in ("kind a of a a least 0", "kind b of a a a a least 0", "kind a of a b a least 0", "width 4",
                     "kind b of b c b least 0", "kind b of a a z least 0"):
            self.assertRaises(InvalidBook, MAJ.with_line, line)
        self.assertEqual(MAJ.lines, ("width 3", "kind a of a a a least 01 02 12"))

    def test_without(self):
        for book in samples.books(sizes=range(1, 7), seeds=6):
            lines = book.lines
            for kind in book:
                others = {other: book[other] for other in book if other != kind}
                if not others or any(kind in one.row for one in others.values()):
                    self.assertRaises(InvalidBook, book.without, kind)
                else:
                    self.assertEqual(book.without(kind).rules, others)
            self.assertEqual(book.lines, lines)
        self.assertEqual(FREE.without("g").kinds, ("r", "w"))
        self.assertEqual(TREE.without("t").lines, TREE.lines[:2])

    def test_dicts_that_are_changed_afterwards(self):
        rules = {"s": TREE["s"], "t": TREE["t"]}
        book = Book(3, rules)
        del rules["s"]
        rules["t"] = MAJ["a"]
        self.assertEqual(book, TREE)
        book.rules["s"] = MAJ["a"]
        book.rules.clear()
        self.assertEqual((book, book.rules, book["s"]), (TREE, TREE.rules, TREE["s"]))

    def test_a_book_never_changes(self):
        for name in ("width", "kinds", "rules", "lines"):
            self.assertRaises(AttributeError, setattr, TREE, name, ())


class Lines(unittest.TestCase):
    def refused(self, lines, index):
        with self.assertRaises(ParseError) as caught:
            Book.from_lines(*lines)
        self.assertEqual(caught.exception.number, index)

    def test_lines_in_every_order(self):
        for book in samples.books(sizes=(1, 2, 3)):
            for lines in itertools.permutations(book.lines):
                self.assertEqual(Book.from_lines(*lines), book)
        for book in samples.books(sizes=(4, 5, 6)):
            self.assertEqual(Book.from_lines(*book.lines[::-1]), book)

    def test_a_line_left_out(self):
        for book in samples.books(sizes=range(1, 7)):
            for at, line in enumerate(book.lines):
                rest = book.lines[:at] + book.lines[at + 1:]
                rules = {kind: book[kind] for kind in book if line[5] != kind}
                if at == 0 or not rules or any(line[5] in one.row for one in rules.values()):
                    self.assertRaises(InvalidBook, Book.from_lines, *rest)
                else:
                    self.assertEqual(Book.from_lines(*rest).rules, rules)
        self.assertRaises(InvalidBook, Book.from_lines)

    def test_a_line_twice(self):
        for book in samples.books(sizes=(1, 2, 3)):
            for at, line in enumerate(book.lines):
                for where in range(len(book.lines) + 1):
                    lines = book.lines[:where] + (line,) + book.lines[where:]
                    self.refused(lines, max(at + (where <= at), where))
        self.refused(TREE.lines + ("width 4",), 3)
        self.refused(TREE.lines + ("kind s of s s s least 1",), 3)
        self.refused(("width 2", "width 3"), 1)

    def test_lines_that_are_none(self):
        for at in range(4):
            for value in NO_LINES:
                lines = TREE.lines[:at] + (value,) + TREE.lines[at:]
                self.refused(lines, at)
                self.refused(lines + (None,), at)
        self.refused(TREE.lines + ("width 3", None), 3)
        self.refused(TREE.lines + (None, "width 3"), 3)

    def test_wrong_lines_come_ahead_of_wrong_books(self):
        self.refused(("width 4", "kind a of a a a least 0", "kind b"), 2)
        self.refused(("kind a of b b b least 0", "kind a of a a a least 0"), 1)
        self.refused((None,), 0)

    def test_lines_of_no_book(self):
        for lines in (("width 3",), MAJ.lines[1:], ("width 4", MAJ.lines[1]), ("width 3", "kind a of a b a least 0"),
                      ("width 3", "kind a of a b a least 0", "kind c of a a a least 0"),
                      ("width 3", "kind a of a a a least 0", "kind b of a a least 0")):
            with self.assertRaises(InvalidBook) as caught:
                Book.from_lines(*lines)
            self.assertIs(type(caught.exception), InvalidBook)

    def test_more_than_six_kinds(self):
        lines = [f"kind {kind} of a a a least 0" for kind in "abcdefg"]
        self.assertEqual(len(Book.from_lines("width 3", *lines[:6])), 6)
        self.assertRaises(InvalidBook, Book.from_lines, "width 3", *lines)
        self.assertRaises(InvalidBook, Book.from_lines("width 3", *lines[:6]).with_line, lines[6])
        self.assertEqual(len(Book.from_lines("width 3", *lines[:6]).with_line(lines[2])), 6)
        self.refused(["width 3", *lines, lines[0]], 8)

    def test_bent_lines(self):
        chosen = random.Random(13)
        for book in samples.books(sizes=(2,)):
            for at, line in enumerate(book.lines):
                for _ in range(60):
                    where = chosen.randrange(len(line) + 1)
                    bent = line[:where] + chosen.choice(["", " ", "a", "0", "-"]) + line[where + chosen.randrange(2):]
                    lines = book.lines[:at] + (bent,) + book.lines[at + 1:]
                    self.look(lines, at)

    def look(self, lines, at):
        """A line that is one is in what comes of it; else its index is told."""
        line = lines[at]
        is_width = line in ("width 2", "width 3", "width 4", "width 5")
        is_kind = line[:5] == "kind " and line[5:6].isalpha() and line[6:7] == " " and self.is_rule(line[7:])
        if not is_width and not is_kind:
            self.refused(lines, at)
        elif sum(line[:7] == other[:7] or other[:5] == line[:5] == "width" for other in lines) > 1:
            last = max(index for index, other in enumerate(lines)
                       if line[:7] == other[:7] or other[:5] == line[:5] == "width")
            self.refused(lines, last)
        else:
            try:
                self.assertIn(line, Book.from_lines(*lines).lines)
            except InvalidBook:
                self.assertFalse(self.is_book(lines))

    def is_rule(self, text):
        try:
            return str(Rule.from_text(text)) == text
        except ParseError:
            return False

    def is_book(self, lines):
        rules = {line[5]: rule(line[7:]) for line in lines if line[:4] == "kind"}
        widths = {int(line[6:]) for line in lines if line[:5] == "width"} | {one.width for one in rules.values()}
        return len(widths) == 1 and all(kind in rules for one in rules.values() for kind in one.row)


class Wrong(Refusal, unittest.TestCase):
    GOOD = {"width": 3, "rules": MAJ.rules, "line": "kind b of a b b least 01 2", "kind": "a", "other": TREE}
    WRONG = {
        "width": (plain.WRONG_WIDTHS, InvalidNumber),
        "rules": (samples.VALUES + (
            {}, {"a": None}, {"a": "of a a a least 01"}, {"a": TREE["t"]}, {"b": MAJ["a"]}, {"A": MAJ["a"]},
            {"a": MAJ["a"], "B": MAJ["a"]}, {"a": MAJ["a"], 1: MAJ["a"]}, {"a": MAJ["a"], None: MAJ["a"]},
            {"a": MAJ["a"], ("b",): MAJ["a"]}, {"a": MAJ["a"], "b": None}, {"a": MAJ["a"], "b": samples.ODD["b"]},
            {"a": samples.ROWS["u"]}, {kind: rule("of a a a least 0") for kind in "abcdefg"}, MAJ, MAJ.lines,
            [("a", MAJ["a"])], (("a", MAJ["a"]),), {"a": MAJ}, {"a": ("a", "a", "a")}, {True: MAJ["a"]},
        ), InvalidBook),
        "line": (NO_LINES, ParseError),
        "kind": (samples.NO_KINDS, UnknownName),
        "other": (tuple(value for value in samples.VALUES if value not in (TREE, FREE)) + (
            samples.ROWS, samples.ODD, MAJ, None, MAJ["a"], MAJ.rules, MAJ.lines), InvalidBook),
    }
    CALLS = (
        (Book, ("width", "rules")),
        (MAJ.with_line, ("line",)),
        (MAJ.needed, ("kind",)),
        (MAJ.part, ("kind",)),
        (MAJ.joined, ("other",)),
        (lambda kind: MAJ[kind], ("kind",)),
    )

    def test_without_names_what_is_no_kind(self):
        for value in samples.NO_KINDS:
            self.refused(MAJ.without, (value,), UnknownName, value)

    def test_rules_are_those_of_the_width(self):
        for width in plain.WIDTHS:
            row = ("a",) * width
            self.assertEqual(Book(width, {"a": Rule(row, ((1,),))}).width, width)
            for other in plain.WIDTHS:
                if other != width:
                    self.refused(Book, (other, {"a": Rule(row, ((1,),))}), InvalidBook)


class Kept(unittest.TestCase):
    def test_any_value_can_be_compared_and_sought(self):
        for value in samples.VALUES + NO_LINES:
            same = value is TREE
            self.assertIs(TREE == value, same)
            self.assertIs(value == TREE, same)
            self.assertIs(TREE != value, not same)
            self.assertIs(value in TREE, isinstance(value, str) and value in ("s", "t"))
        for value in ("a", "st", "width 4", "kind s of s s s least 1", TREE["s"], TREE.lines, ("s",), "width 3 "):
            self.assertIs(value in TREE, False)
        self.assertIs("width 3" in TREE, True)

    def test_unlike_books(self):
        for one, other in itertools.combinations(samples.books(), 2):
            self.assertIs(one == other, one.lines == other.lines)
            self.assertIs(one != other, one.lines != other.lines)


if __name__ == "__main__":
    unittest.main()
