"""Commands of a shell beside what the functions tell: points 17.2 and 17.3."""

import itertools
import random
import time
import unittest

from grownquorums.books.books import Book
from grownquorums.decide.duals import are_alike
from grownquorums.decide.meets import falling_order, meeting_paper
from grownquorums.decide.overlaps import overlap
from grownquorums.decide.within import fall_of
from grownquorums.errors import InvalidBook, InvalidCamp, ParseError
from grownquorums.measure.sizes import fewest_failures, least_size
from grownquorums.seats.camps import Camp, holds_at, pattern_of
from grownquorums.text import shell as module
from grownquorums.text.shell import Shell
from grownquorums.text.texts import write_paper
from tests import plain, samples
from tests.refusal import Refusal
from tests.samples import EDGE, FLIP, FREE, MAJ, ODD, ROWS, TREE
from tests.test_camps import LONG as TURNING
from tests.test_camps import LONG_CAMP as TURNING_CAMP
from tests.test_meets import LONG

LETTERS = samples.LETTERS


def some_pairs():
    """Books with camps of their widths."""
    books = [MAJ, TREE, FREE, ROWS, ODD, LONG] + samples.books(sizes=(1, 2, 3), seeds=1)
    for at, book in enumerate(books):
        yield book, samples.random_camp(book.width, 1 + at % 5, at)
    yield FREE, EDGE
    yield TREE, FLIP


def until(fall):
    return "yes" if fall is None else f"no from {fall}"


class Example(unittest.TestCase):
    def test_the_examples_of_the_document(self):
        shell = Shell(FREE, Camp.all_seats(3))
        self.assertEqual(
            [shell("meets g g"), shell("meets w r"), shell("overlap w w at 3"), shell("within g r"),
             shell("least g at 2"), shell("drop w"), shell("meets w r")],
            ["no from 2", "yes", "27", "yes", "3", "ok", "name"])
        self.assertEqual(
            [shell("rest"), shell("pattern r"), shell("size 4"), shell("undo"), shell("holds r at 7"),
             shell("has 012"), shell("Undo"), len(shell)],
            ["ok", "0 1: none", "0", "ok", "yes", "yes", "what", 1])

    def test_names(self):
        self.assertEqual(Shell.__module__, "grownquorums.text.shell")
        self.assertIs(module.Shell, Shell)
        for name in "book camp __call__ __len__ __str__".split():
            self.assertIn(name, vars(Shell))


class Questions(unittest.TestCase):
    def test_what_the_functions_tell(self):
        for book, camp in some_pairs():
            shell = Shell(book, camp)
            self.assertEqual(shell("show"), "; ".join(book.lines))
            self.assertEqual(shell("camp"), "; ".join(camp.lines))
            self.assertEqual(str(shell), f"shell with {len(book)} kinds, {len(camp)} states")
            self.look_at_groups(shell, book)
            for one, other in itertools.product(book.kinds, repeat=2):
                self.assertEqual(shell(f"within {one} {other}"), until(fall_of(book, book, one, other)))
                expected = "yes" if are_alike(book, book, one, other) else "no"
                self.assertEqual(shell(f"alike {one} {other}"), expected)
            for kind in book:
                self.look_at_kind(shell, book, camp, kind)
            for order in (0, 1, 2, 3, 50, 200):
                self.assertEqual(shell(f"size {order}"), str(camp.size(order)))
            for order in range(4):
                for seat in samples.seats(book.width, order):
                    text = "".join(map(str, seat)) or "-"
                    self.assertEqual(shell(f"has {text}"), "yes" if camp.has(seat) else "no")
            self.assertEqual(len(shell), 0)
            self.assertEqual((shell.book, shell.camp), (book, camp))

    def look_at_groups(self, shell, book):
        for size in (2, 3):
            for letters in itertools.product(book.kinds, repeat=size):
                group = tuple(sorted(letters))
                text = " ".join(letters)
                self.assertEqual(shell(f"meets {text}"), until(falling_order(book, group)))
                self.assertEqual(shell(f"paper {text}"), write_paper(meeting_paper(book, group)).replace("\n", "; "))
                for order in (0, 1, 2, 7):
                    self.assertEqual(shell(f"overlap {text} at {order}"), str(overlap(book, group, order)))

    def look_at_kind(self, shell, book, camp, kind):
        for order in (0, 1, 2, 3, 50, 200):
            self.assertEqual(shell(f"least {kind} at {order}"), str(least_size(book, kind, order)))
            self.assertEqual(shell(f"block {kind} at {order}"), str(fewest_failures(book, kind, order)))
        for order in (0, 1, 2, 3, 4096, 10 ** 50, 10 ** 399, 10 ** 400 - 1):
            expected = "yes" if holds_at(book, kind, camp, order) else "no"
            self.assertEqual(shell(f"holds {kind} at {order}"), expected)
        turn, period, orders = pattern_of(book, kind, camp)
        told = " ".join(map(str, orders)) or "none"
        self.assertEqual(shell(f"pattern {kind}"), f"{turn} {period}: {told}")

    def test_great_answers(self):
        shell = Shell(FREE, Camp.all_seats(3))
        self.assertEqual(shell("overlap w w w at 200"), str(3 ** 200))
        self.assertEqual(shell("least w at 200"), str(3 ** 200))
        self.assertEqual(shell("block r at 200"), str(3 ** 200))
        self.assertEqual(shell("size 200"), str(3 ** 200))
        self.assertEqual(shell("has " + "012" * 66 + "01"), "yes")
        self.assertEqual(shell("paper g g"), "split; 1 r r by 2 1; 2 g g by 02 01")
        self.assertEqual(Shell(TREE, EDGE)("paper t t"), "meet; s s; t t")
        self.assertEqual(Shell(MAJ, FLIP)("pattern a"), "0 2: 0")
        late = Camp.from_lines("width 3", "first p", "state p in of q q q", "state q in of r r r", "state r out of r r r")
        self.assertEqual(Shell(MAJ, late)("pattern a"), "2 1: 0 1")


class Changes(unittest.TestCase):
    def test_each_change(self):
        shell = Shell(TREE, EDGE)
        self.assertEqual(shell("kind s of t t t least 1 2"), "ok")
        self.assertEqual(shell.book, TREE.with_line("kind s of t t t least 1 2"))
        self.assertEqual(shell("kind a of a s t least 012"), "ok")
        self.assertEqual(shell.book.kinds, ("a", "s", "t"))
        self.assertEqual(shell("dual"), "ok")
        self.assertEqual(shell.book["a"].family, ((0,), (1,), (2,)))
        self.assertEqual(shell("drop a"), "ok")
        self.assertEqual(shell.book.kinds, ("s", "t"))
        self.assertEqual(shell.camp, EDGE)
        self.assertEqual((len(shell), str(shell)), (4, "shell with 2 kinds, 2 states"))
        book = shell.book
        self.assertEqual(shell("state q in of p q q"), "ok")
        self.assertEqual(shell.camp.lines, EDGE.lines[:3] + ("state q in of p q q",))
        self.assertEqual(shell("state a out of a q p"), "ok")
        self.assertEqual(shell.camp.lines, EDGE.lines[:2] + (
            "state a out of a q p", EDGE.lines[2], "state q in of p q q"))
        self.assertEqual(shell("first a"), "ok")
        self.assertEqual((shell.camp.first, shell.camp.part(1).first), ("a", "q"))
        camp = shell.camp
        self.assertEqual(shell("rest"), "ok")
        self.assertEqual(shell.camp, camp.rest())
        self.assertEqual(shell.book, book)
        self.assertEqual((len(shell), str(shell)), (8, "shell with 2 kinds, 3 states"))

    def test_undo_one_by_one(self):
        shell = Shell(TREE, EDGE)
        commands = ("dual", "dual", "kind s of t t t least 1 2", "kind s of t t t least 1 2", "rest", "first q", "first q",
                    "state z in of z z z", "state p out of q q q", "kind a of a a a least 0", "drop a", "rest", "dual")
        states = []
        for many, command in enumerate(commands):
            states.append((shell.book, shell.camp))
            self.assertEqual(shell(command), "ok")
            self.assertEqual(len(shell), many + 1)
        for many, (book, camp) in reversed(list(enumerate(states))):
            self.assertEqual(shell("undo"), "ok")
            self.assertEqual((shell.book, shell.camp, len(shell)), (book, camp, many))
        for _ in range(2):
            self.assertEqual(shell("undo"), "nothing")
            self.assertEqual((shell.book, shell.camp, len(shell)), (TREE, EDGE, 0))
        self.assertEqual([shell("rest"), shell("undo"), shell("undo")], ["ok", "ok", "nothing"])

    def test_two_shells_share_nothing(self):
        one, other = Shell(TREE, EDGE), Shell(TREE, EDGE)
        one("drop s")
        one("rest")
        self.assertEqual((other.book, other.camp, len(other)), (TREE, EDGE, 0))
        for name in ("book", "camp"):
            self.assertRaises(AttributeError, setattr, one, name, None)
        for function in (iter, list):
            self.assertRaises(TypeError, function, one)

    def test_long_histories(self):
        chosen = random.Random(174)
        shell, past = Shell(TREE, EDGE), []
        commands = ("dual", "rest", *("undo",) * 18, "kind s of t t t least 1 2", "kind u of s t u least 01 2", "drop s",
                    "drop t", "drop u", "first p", "first z", "first r", "state r in of p q r", "state p out of r r r",
                    "state q in of q q", "kind", "kind s of s", "show", "what", "meets s t", "drop z", "kind s of a a a least 0")
        found = set()
        for _ in range(6000):
            command = chosen.choice(commands)
            before = (shell.book, shell.camp)
            answer = shell(command)
            found.add((command.split()[0], answer))
            if command == "undo":
                self.assertEqual(answer, "ok" if past else "nothing")
                self.assertEqual((shell.book, shell.camp), past.pop() if past else before)
            elif answer == "ok":
                past.append(before)
            else:
                self.assertEqual((shell.book, shell.camp), before)
            self.assertEqual(len(shell), len(past))
        for pair in (("drop", "book"), ("drop", "name"), ("drop", "ok"), ("first", "camp"), ("state", "camp"),
                     ("kind", "line"), ("kind", "what"), ("kind", "book"), ("undo", "nothing"), ("meets", "name")):
            self.assertIn(pair, found)


class Words(unittest.TestCase):
    def look(self, shell, command, expected):
        before = (shell.book, shell.camp, len(shell))
        self.assertEqual(shell(command), expected, command)
        self.assertEqual((shell.book, shell.camp, len(shell)), before)

    def test_the_word_of_each_error(self):
        shell = Shell(FREE, EDGE)
        for command, expected in (
                ("kind g of r g g least 01 02 21", "line"), ("kind g of r g least 01", "book"), ("kind ", "line"),
                ("kind g", "line"), ("kind g of r g z least 01", "book"), ("kind  g of r g g least 01", "line"),
                ("kind G of r g g least 01", "line"), ("kind g of r g g least 01 ", "line"), ("kind width 4", "line"),
                ("drop r", "book"), ("drop z", "name"), ("first z", "camp"), ("first r", "camp"), ("state ", "line"),
                ("state p", "line"), ("state p in of p p", "camp"), ("state p in of p p z", "camp"), ("state first q", "line"),
                ("state p In of p p q", "line"), ("state  p in of p p q", "line"), ("state p in of p p q ", "line"),
                ("state p in of p p p p", "camp"), ("state p in of p p p p p p", "line"), ("state z in of a a a", "camp"),
                ("state width 3", "line"), ("kind g of r g g\nleast 01", "line"), ("state p in of p p q\n", "line"),
                ("meets g z", "name"), ("meets z z z", "name"), ("paper g g z", "name"), ("overlap z g at 1", "name"),
                ("overlap z g at 201", "name"), ("overlap g g at 201", "number"), ("within g z", "name"),
                ("within z g", "name"), ("alike z z", "name"), ("alike g a", "name"), ("least z at 1", "name"),
                ("least z at 201", "name"), ("least g at 201", "number"), ("block g at 1000", "number"),
                ("block b at 1", "name"), ("holds z at 1", "name"), ("pattern z", "name"), ("size 201", "number"),
                ("has 3", "seat"), ("has 0124", "seat"), ("has 44", "seat"), ("has " + "0" * 201, "seat"),
                ("has " + "4" * 7000, "seat"), ("undo", "nothing")):
            self.look(shell, command, expected)
        narrow = Shell(ROWS, Camp.all_seats(2))
        self.assertEqual([narrow("has 2"), narrow("has 1"), narrow("has -")], ["seat", "yes", "yes"])
        self.look(Shell(MAJ, EDGE), "drop a", "book")

    def test_numbers_of_very_many_figures(self):
        shell = Shell(FREE, EDGE)
        for figures in (4, 400, 401, 450, 4300, 4301, 7900):
            number = "9" * figures
            for command in ("overlap g w at ", "least g at ", "block g at ", "size "):
                self.look(shell, command + number, "number")
            expected = "number" if figures > 400 else "yes"
            self.look(shell, "holds r at " + number, expected)
            self.look(shell, "holds z at " + number, "name")
            self.look(shell, "overlap g z at " + number, "name")
            for command in ("overlap g w at 0", "least g at 0", "size 0", "holds r at 0"):
                self.look(shell, command + number, "what")

    def test_what_goes_on_for_too_long(self):
        shell = Shell(Book.from_lines(*TURNING), Camp.from_lines(*TURNING_CAMP))
        self.look(shell, "pattern a", "many")
        self.look(shell, "holds a at 4097", "many")
        self.assertIn(shell("holds a at 4096"), ("yes", "no"))
        self.look(shell, "pattern z", "name")

    def test_strings_of_no_form(self):
        shell = Shell(FREE, EDGE)
        good = ("drop g", "dual", "first q", "rest", "undo", "show", "camp", "meets g r", "meets g r w", "paper g g",
                "overlap g g at 3", "within g r", "alike g r", "least g at 3", "block g at 3", "holds g at 3",
                "pattern g", "size 3", "has 012", "has -")
        for command in good:
            bent = [command + " ", " " + command, command + "\n", "\n" + command, command.capitalize(), command.upper(),
                    command.replace(" ", "  ", 1) + " " * (" " not in command), command + " x y z", command + " 1 2",
                    command + ";", command + "."]
            if " " in command:
                bent += [command.replace(" ", "", 1), command.replace(" ", "\t", 1), command.replace(" ", "\n", 1),
                         command.rpartition(" ")[0] + " ", command.replace(" g", " G", 1) if " g" in command else "what"]
            if command != "has -":
                bent += [command[:-1] + "?", command[:-1] + "5x", command + "\t"]
            for other in bent:
                self.look(shell, other, "what")
        for other in ("", " ", "\n", "-", "x", "kind", "state", "drop", "drop gg", "drop g g", "drop 1", "dual g",
                      "first", "first qq", "rest 1", "undo 1", "show g", "camp p", "meets", "meets g", "meets g g g g",
                      "meets gg", "meets g,g", "meets g 1", "paper", "paper g", "overlap g g", "overlap g g at",
                      "overlap g at 3", "overlap g g g g at 3", "overlap g g at 03", "overlap g g at -1",
                      "overlap g g at +1", "overlap g g At 3", "overlap g g 3", "overlap g g at 3 4", "overlap at 3",
                      "overlap g g at 3.", "overlap g g at x", "overlap g g at ", "within g", "within g r w", "alike",
                      "alike g", "alike g r w", "least g", "least g at", "least at 3", "least g g at 3", "least g at 00",
                      "least g at 1_0", "block 3 at g", "holds g at 1e3", "holds g", "holds g at 0x1", "pattern",
                      "pattern g g", "pattern gg", "size", "size 03", "size -1", "size 3 4", "size at 3", "size x", "size ",
                      "has", "has ", "has 5", "has 0125", "has --", "has -0", "has 01 2", "has x", "has (0)", "has 0,1",
                      "Kind g of r g g least 01", "kinds g", "STATE p in of p p q", "is", "g", "meets  g g", "x" * 8000,
                      "size 1 ", " size 1", "meets g g ", "kind\tg of r g g least 01", "state\np in of p p q", "at 3"):
            self.look(shell, other, "what")
        self.assertEqual([shell("size 0"), shell("least g at 0"), shell("has -")], ["1", "1", "yes"])

    def test_letters_in_any_order(self):
        shell = Shell(FREE, EDGE)
        for letters in itertools.permutations("grw"):
            self.assertEqual(shell("meets " + " ".join(letters)), shell("meets g r w"))
            self.assertEqual(shell(f"overlap {' '.join(letters)} at 2"), shell("overlap g r w at 2"))


class Quick(unittest.TestCase):
    def test_six_kinds_of_width_5_and_26_states(self):
        chosen = random.Random(175)
        start = time.process_time()
        for family in ("012 013 014 023 024 034 123 124 134 234", "01 02 034 124 13 234"):
            lines = [f"kind {kind} of {' '.join(chosen.choices('abcdef', k=5))} least {family}" for kind in "abcdef"]
            shell = Shell(Book.from_lines("width 5", *lines), samples.random_camp(5, 26, family))
            for kind in "abcdef":
                for command in (f"pattern {kind}", f"holds {kind} at 1000", f"holds {kind} at {10 ** 300}",
                                f"meets {kind} a", f"paper {kind} b c", f"overlap {kind} f at 200", f"within {kind} a",
                                f"alike {kind} b", f"least {kind} at 200", f"block {kind} at 200", "size 200", "rest",
                                "dual", f"state {kind} in of a b c d e", f"first {kind}"):
                    self.assertNotIn(shell(command), ("what", "name", "line", "book"))
            while shell("undo") == "ok":
                pass
            self.assertEqual(len(shell), 0)
        self.assertLess(time.process_time() - start, 20)


class Wrong(Refusal, unittest.TestCase):
    GOOD = {"book": MAJ, "camp": EDGE, "command": "show"}
    WRONG = {
        "book": (samples.NO_BOOKS, InvalidBook),
        "camp": (tuple(value for value in samples.VALUES if value is not EDGE) + (
            EDGE.lines, EDGE.states, str(EDGE), Camp.all_seats(2), Camp.all_seats(4)), InvalidCamp),
        "command": (tuple(value for value in samples.VALUES if not isinstance(value, str)) + (("show",), ["show"]),
                    ParseError),
    }
    CALLS = (
        (lambda book, camp: str(Shell(book, camp)), ("book", "camp")),
        (Shell(TREE, FLIP), ("command",)),
    )

    def test_a_refused_command_changes_nothing(self):
        shell = Shell(TREE, EDGE)
        shell("rest")
        for value in self.WRONG["command"][0]:
            self.assertRaises(ParseError, shell, value)
        self.assertEqual((shell.book, shell.camp, len(shell)), (TREE, EDGE.rest(), 1))

    def test_any_string_is_answered(self):
        shell = Shell(TREE, EDGE)
        for value in samples.VALUES + plain.ODD_VALUES:
            if isinstance(value, str):
                self.assertEqual(shell(value), "what")


if __name__ == "__main__":
    unittest.main()
