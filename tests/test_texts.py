"""Texts there and back, and texts that are bent in one place: point 17.1."""

import random
import unittest

from grownquorums.books.books import Book
from grownquorums.decide.meets import meeting_paper
from grownquorums.errors import InvalidBook, InvalidCamp, InvalidPaper, ParseError
from grownquorums.seats.camps import Camp
from grownquorums.text import texts as module
from grownquorums.text.texts import read_book, read_camp, read_paper, write_book, write_camp, write_paper
from tests import samples
from tests.refusal import Refusal
from tests.samples import EDGE, FLIP, FREE, MAJ, ODD, ROWS, TREE
from tests.test_meets import LONG, falling_books

MEET = ("meet", (("s", "s"), ("t", "t")))
SPLIT = ("split", ((1, ("r", "r"), ((2,), (1,))), (2, ("g", "g"), ((0, 2), (0, 1)))))


def some_books():
    return [MAJ, TREE, FREE, ROWS, ODD, LONG] + samples.books(sizes=(1, 2, 6), seeds=2)


def some_papers():
    found = []
    for book in some_books() + falling_books():
        for group in samples.groups(book, 2) + samples.groups(book, 3):
            found.append(meeting_paper(book, group))
    return found


def number_told(call):
    """The index that a ParseError keeps, or the class of another error, or "none" if there is none."""
    try:
        call()
    except ParseError as error:
        return error.number
    except (InvalidBook, InvalidCamp) as error:
        return type(error)
    return "none"


class Example(unittest.TestCase):
    def test_the_examples_of_the_document(self):
        self.assertEqual(
            [read_paper(write_paper(meeting_paper(FREE, ("g", "g")))) == meeting_paper(FREE, ("g", "g")),
             write_paper(("meet", (("s", "s"), ("t", "t"))))],
            [True, "meet\ns s\nt t"])

    def test_names(self):
        for name in "write_book read_book write_camp read_camp write_paper read_paper".split():
            self.assertEqual(getattr(module, name).__module__, "grownquorums.text.texts")


class BooksAndCamps(unittest.TestCase):
    def test_there_and_back(self):
        for book in some_books():
            self.assertEqual(write_book(book), "\n".join(book.lines))
            self.assertEqual(read_book(write_book(book)), book)
        for camp in samples.camps() + [EDGE, FLIP]:
            self.assertEqual(write_camp(camp), "\n".join(camp.lines))
            self.assertEqual(read_camp(write_camp(camp)), camp)

    def test_lines_in_any_order(self):
        chosen = random.Random(171)
        for one, read, write in [(book, read_book, write_book) for book in some_books()] + [
                (camp, read_camp, write_camp) for camp in samples.camps()]:
            lines = list(one.lines)
            chosen.shuffle(lines)
            self.assertEqual(read("\n".join(lines)), one)
            self.assertEqual(write(read("\n".join(lines[::-1]))), write(one))

    def test_bent_texts_as_their_lines(self):
        chosen = random.Random(172)
        found = set()
        for one, read in [(book, read_book) for book in some_books()[:12]] + [
                (camp, read_camp) for camp in samples.camps(seeds=1)]:
            made = Book.from_lines if read is read_book else Camp.from_lines
            text = "\n".join(one.lines)
            places = range(len(text)) if len(text) < 200 else chosen.sample(range(len(text)), 150)
            for at in places:
                for other in (text[:at] + text[at + 1:], text[:at] + chosen.choice("abz019 \nX") + text[at:],
                              text[:at] + chosen.choice("abz019 \nX") + text[at + 1:]):
                    told = number_told(lambda: read(other))
                    found.add(told)
                    self.assertEqual(told, number_told(lambda: made(*other.split("\n"))))
            for at, line in enumerate(one.lines):
                more = one.lines[:at] + (line,) + one.lines[at:]
                self.assertEqual(number_told(lambda: read("\n".join(more))), at + 1)
                for empty in ("", " ", "\t", "-", line + " ", " " + line, line.upper(), line.replace(" ", "  ", 1)):
                    lines = one.lines[:at] + (empty,) + one.lines[at + 1:]
                    self.assertEqual(number_told(lambda: read("\n".join(lines))), at)
        self.assertLessEqual({0, 1, 2, 3, InvalidBook, InvalidCamp, "none"}, found)

    def test_empty_lines_and_missing_ones(self):
        for read, one, error in ((read_book, TREE, InvalidBook), (read_camp, EDGE, InvalidCamp)):
            text = "\n".join(one.lines)
            self.assertEqual(number_told(lambda: read("")), 0)
            self.assertEqual(number_told(lambda: read("\n")), 0)
            self.assertEqual(number_told(lambda: read(text + "\n")), len(one.lines))
            self.assertEqual(number_told(lambda: read("\n" + text)), 0)
            self.assertEqual(number_told(lambda: read(text.replace("\n", "\n\n", 1))), 1)
            self.assertEqual(number_told(lambda: read(text.replace("\n", " ", 1))), 0)
            for at in range(2):
                lines = one.lines[:at] + one.lines[at + 1:]
                self.assertEqual(number_told(lambda: read("\n".join(lines))), error)
            self.assertEqual(number_told(lambda: read("width 3")), error)


def plain_row(word, line):
    """A plain look at a line of a paper: a row, or None."""
    words = line.split(" ")
    kinds = words if word == "meet" else words[1:len(words) // 2]
    is_group = len(kinds) in (2, 3) and kinds == sorted(kinds) and all(
        len(kind) == 1 and kind in samples.LETTERS for kind in kinds)
    if not is_group:
        return None
    if word == "meet":
        return tuple(kinds)
    if words[0] not in [str(order) for order in range(1, 201)] or words[len(kinds) + 1] != "by":
        return None
    sets = words[len(kinds) + 2:]
    if len(sets) != len(kinds) or any(text == "" or list(text) != sorted(set(text) & set("01234")) for text in sets):
        return None
    return (int(words[0]), tuple(kinds), tuple(tuple(map(int, text)) for text in sets))


def plain_read(text):
    """Point 17.1: the paper, or the index of the first wrong line."""
    lines = text.split("\n")
    if lines[0] not in ("meet", "split"):
        return 0
    rows = []
    for index in range(1, len(lines)):
        row = plain_row(lines[0], lines[index])
        if row is None:
            return index
        group = row if lines[0] == "meet" else row[1]
        if rows:
            last = rows[-1] if lines[0] == "meet" else rows[-1][1]
            if len(group) != len(last) or not rows[-1] < row:
                return index
        rows.append(row)
    return (lines[0], tuple(rows)) if rows else len(lines)


class Papers(unittest.TestCase):
    def test_there_and_back(self):
        for paper in some_papers() + [MEET, SPLIT]:
            text = write_paper(paper)
            self.assertEqual(text.split("\n")[0], paper[0])
            self.assertEqual(len(text.split("\n")), len(paper[1]) + 1)
            self.assertEqual(read_paper(text), paper)
            self.assertEqual(plain_read(text), paper)
        self.assertEqual(write_paper(SPLIT), "split\n1 r r by 2 1\n2 g g by 02 01")

    def test_papers_of_no_book(self):
        for paper in (
                ("meet", tuple((letter, letter) for letter in samples.LETTERS)), ("meet", (("a", "z", "z"),)),
                ("split", ((200, ("a", "a", "b"), ((0, 1, 2, 3, 4), (4,), (0,))),)),
                ("split", ((9, ("x", "y"), ((0,), (0,))), (10, ("a", "b"), ((1,), (2,))), (10, ("a", "b"), ((1,), (3,)))))):
            self.assertEqual(read_paper(write_paper(paper)), paper)

    def test_bent_texts(self):
        chosen = random.Random(173)
        found = {}
        papers = some_papers()
        texts = [write_paper(paper) for paper in chosen.sample(papers, 60) + [MEET, SPLIT]]
        for text in texts:
            lines = text.split("\n")
            bent = [text + "\n", "\n" + text, text + " ", " " + text, text.replace(" ", "  ", 1), text.upper(),
                    "split\n" + text, "meet\n" + text, lines[0], lines[0] + "\n", text + "\n" + lines[-1]]
            bent += ["\n".join(lines[:at] + lines[at + 1:]) for at in range(len(lines))]
            bent += ["\n".join(lines[:at] + lines[at:at + 2][::-1] + lines[at + 2:]) for at in range(len(lines))]
            for at in range(len(text)):
                for sign in chosen.sample("abz0123459 \n-b", 2):
                    bent += [text[:at] + sign + text[at:], text[:at] + sign + text[at + 1:]]
                bent.append(text[:at] + text[at + 1:])
            for other in bent:
                expected = plain_read(other)
                if isinstance(expected, int):
                    found[expected] = found.get(expected, 0) + 1
                    self.assertEqual(number_told(lambda: read_paper(other)), expected, other)
                else:
                    self.assertEqual(read_paper(other), expected)
                    self.assertEqual(write_paper(expected), other)
        self.assertGreater(min(found[index] for index in (0, 1, 2)), 100)

    def test_lines_that_are_none(self):
        for line in ("", " ", "r r by 2 1", "0 r r by 2 1", "01 r r by 2 1", "201 r r by 2 1", "+1 r r by 2 1",
                     "-1 r r by 2 1", "1 r by 2", "1 r r r r by 0 0 0 0", "1 r r by 2", "1 r r by 2 1 0", "1 r r 2 1",
                     "1 r r By 2 1", "1 r r by 2 10", "1 r r by 2 11", "1 r r by 2 5", "1 r r by 2 ", "1 r r by  2 1",
                     "1 s r by 2 1", "1 R r by 2 1", "1 rr r by 2 1", "1 r r by 2 1\t", "1\tr r by 2 1", "1 r r by 2,1",
                     "1 r r by - 1", "9" * 500 + " r r by 2 1", "1 r r by by 2 1", "1 by 2", "1 by", "by", "1", "r r"):
            self.assertEqual(number_told(lambda: read_paper("split\n" + line)), 1)
            self.assertEqual(number_told(lambda: read_paper("split\n" + line + "\n" + line)), 1)
            self.assertEqual(number_told(lambda: read_paper("split\n1 a a by 0 1\n" + line)), 2)
        self.assertEqual(read_paper("split\n1 r r by 2 1"), ("split", SPLIT[1][:1]))
        for line in ("", " ", "s", "s s s s", "t s", "S s", "ss", "s  s", " s s", "s s ", "s 1", "s,s", "1 s s by 0 0"):
            self.assertEqual(number_told(lambda: read_paper("meet\n" + line)), 1)
        for line in ("s s", "a a", "s t", "s t t", "u u u"):
            self.assertEqual(number_told(lambda: read_paper("meet\ns t\n" + line)), 2)
        self.assertEqual(number_told(lambda: read_paper("split\n2 a a by 0 1\n2 a a by 0 1")), 2)
        self.assertEqual(number_told(lambda: read_paper("split\n10 a a by 0 1\n9 a a by 0 1")), 2)
        self.assertEqual(number_told(lambda: read_paper("split\n9 a a by 0 1\n10 a a by 0 1")), "none")
        self.assertEqual(number_told(lambda: read_paper("split\n9 a a by 0 1\n10 a a a by 0 1 2")), 2)

    def test_a_missing_line(self):
        for text in ("meet", "split"):
            self.assertEqual(number_told(lambda: read_paper(text)), 1)
            self.assertEqual(number_told(lambda: read_paper(text + "\n")), 1)
        for text in ("", "\n", "Meet\ns s", "meet \ns s", " meet\ns s", "meets\ns s", "s s", "meet s s"):
            self.assertEqual(number_told(lambda: read_paper(text)), 0)


ENTRY = (1, ("r", "r"), ((2,), (1,)))
NO_ROWS = (
    None, "", "s s", (), ("s",), ("s", "s", "s", "s"), ["s", "s"], ("t", "s"), ("S", "s"), ("s", None), ("s", 1),
    ("s", ["s"]), (True, ("r", "r"), ((2,), (1,))), (0, ("r", "r"), ((2,), (1,))), (201, ("r", "r"), ((2,), (1,))),
    (-1, ("r", "r"), ((2,), (1,))), ("1", ("r", "r"), ((2,), (1,))), (10 ** 400, ("r", "r"), ((2,), (1,))),
    (1, ["r", "r"], ((2,), (1,))), (1, "rr", ((2,), (1,))), (1, ("r",), ((2,),)), (1, ("s", "r"), ((2,), (1,))),
    (1, ("r", "r"), ((2,),)), (1, ("r", "r"), ((2,), (1,), (0,))), (1, ("r", "r"), [(2,), (1,)]), (1, ("r", "r")),
    (1, ("r", "r"), ((2,), [1])), (1, ("r", "r"), ((2,), ())), (1, ("r", "r"), ((2,), (5,))), [*ENTRY],
    (1, ("r", "r"), ((2,), (1, 0))), (1, ("r", "r"), ((2,), (True,))), (1, ("r", "r"), ((2,), "1")), (*ENTRY, 0),
    (1, ("r", "r"), ((2,), None)), (1, ("r", "r"), "21"), (1, ("r", "r"), ((2,), (1, 1))), (1, None, ((2,), (1,))),
)
NO_PAPERS = samples.VALUES + (
    (), ("meet",), ("meet", ()), ("split", ()), ("meet", (("s", "s"),), 0), ["meet", (("s", "s"),)], ("Meet", (("s", "s"),)),
    ("meet", [("s", "s")]), ("meet", "ss"), ("meet", None), (None, (("s", "s"),)), ("meet", {("s", "s"): 1}), (1, 2),
    ("meet", (("t", "t"), ("s", "s"))), ("meet", (("s", "s"), ("s", "s"))), ("meet", (("s", "s"), ("s", "s", "s"))),
    ("split", (("s", "s"),)), ("meet", (ENTRY,)), ("split", (ENTRY, ENTRY)), ("split", ENTRY), ("meet", ("s", "s")),
    ("split", (ENTRY, (2, ("r", "r", "r"), ((0,), (1,), (2,))))), ("split", ((2, *ENTRY[1:]), ENTRY)),
    (("meet",), (("s", "s"),)), (("s", "s"), "meet"), ("", (("s", "s"),)),
) + tuple(("meet", (row,)) for row in NO_ROWS if row != ()) + tuple(("split", (row,)) for row in NO_ROWS)


class Wrong(Refusal, unittest.TestCase):
    GOOD = {"book": MAJ, "camp": EDGE, "book text": "\n".join(MAJ.lines), "camp text": "\n".join(EDGE.lines),
            "paper": SPLIT, "paper text": "meet\ns s"}
    NO_TEXTS = tuple(value for value in samples.VALUES if not isinstance(value, str))
    WRONG = {
        "book": (samples.NO_BOOKS, InvalidBook),
        "camp": (tuple(value for value in samples.VALUES if value is not EDGE) + (
            EDGE.lines, EDGE.states, str(EDGE), EDGE.rest), InvalidCamp),
        "book text": (NO_TEXTS + (MAJ.lines, list(MAJ.lines)), ParseError),
        "camp text": (NO_TEXTS + (EDGE.lines,), ParseError),
        "paper": (NO_PAPERS, InvalidPaper),
        "paper text": (NO_TEXTS + (MEET, SPLIT), ParseError),
    }
    CALLS = (
        (write_book, ("book",)), (read_book, ("book text",)), (write_camp, ("camp",)), (read_camp, ("camp text",)),
        (write_paper, ("paper",)), (read_paper, ("paper text",)),
    )

    def test_rows_that_are_none(self):
        for row in NO_ROWS:
            for rows in ((row,), (row, ("t", "t")), (("a", "a"), row), (("a", "a"), row, ("t", "t"))):
                if row != ():
                    self.refused(write_paper, (("meet", rows),), InvalidPaper)
            for rows in ((row, (2, *ENTRY[1:])), ((1, ("a", "a"), ((0,), (0,))), row), (ENTRY, row)):
                self.refused(write_paper, (("split", rows),), InvalidPaper)

    def test_strings_of_other_kinds(self):
        for value in samples.VALUES:
            if isinstance(value, str):
                for read in (read_book, read_camp, read_paper):
                    self.refused(read, (value,), ParseError, 0)


if __name__ == "__main__":
    unittest.main()
