"""Councils against a plain record that keeps every vote: points 16.1 to 16.4."""

import copy
import itertools
import random
import time
import unittest

from grownquorums.books.books import Book
from grownquorums.decide.meets import meets_at
from grownquorums.errors import (
    InvalidBook, InvalidNumber, InvalidOperation, NoQuorum, NothingToUndo, Refused, TooMany, UnknownName,
)
from grownquorums.seats.systems import crowd_holds
from grownquorums.use import council as module
from grownquorums.use.council import MAX_BALLOTS, MAX_SEATS, Council, breaking_deeds
from tests import plain, samples
from tests.refusal import Refusal
from tests.samples import FREE, MAJ, ODD, ROWS, TREE
from tests.test_meets import LONG

WORDS = ("yes", "no", "maybe", "a", "abcdefgh")
LAST_ORDERS = {2: 12, 3: 7, 4: 6, 5: 5}
MIXED = Book.from_lines(
    "width 3", "kind a of a a a least 01 02 12", "kind r of r r r least 0 1 2", "kind w of w w w least 012",
    "kind x of a r w least 0 12", "kind y of w a a least 01 12")


class Turned(Exception):
    """What a record raises, with the error that the council raises and what that keeps."""

    def __init__(self, error, told):
        self.error = error
        self.told = told


class Record:
    """A plain council: all ballots, and for each seat all its votes and all ballots to which it was bound."""

    def __init__(self, book, order, reading, writing, strict):
        self.book, self.order, self.strict = book, order, strict
        self.reading, self.writing = reading, writing
        self.ballots = []
        self.votes = []
        self.bound = []
        self.past = []

    def keep(self):
        self.past.append((self.reading, self.writing, copy.deepcopy(self.ballots), list(self.votes), list(self.bound)))

    def holds(self, kind, seats):
        return samples.holds(self.book, kind, self.order, samples.seats_of(self.book.width, self.order, sorted(seats)))

    def voters(self, ballot):
        return {seat for seat, number in self.votes if number == ballot}

    def last(self, seat):
        return max((number for one, number in self.votes if one == seat), default=None)

    def latest(self, seat):
        return max((number for one, number in self.bound if one == seat), default=None)

    def begin(self, seats):
        if not self.holds(self.reading, seats):
            raise Turned(NoQuorum, self.reading)
        lasts = [self.last(seat) for seat in seats if self.last(seat) is not None]
        word = self.ballots[max(lasts)][2] if lasts else None
        self.keep()
        number = len(self.ballots)
        self.ballots.append([self.reading, self.writing, word])
        self.bound += [(seat, number) for seat in seats]
        return number, word

    def vote(self, ballot, word, seats):
        if self.ballots[ballot][2] not in (None, word):
            raise Turned(Refused, self.ballots[ballot][2])
        for seat in seats:
            if seat not in self.voters(ballot):
                bound, last = self.latest(seat), self.last(seat)
                if (bound is not None and bound > ballot) or (last is not None and last > ballot):
                    raise Turned(Refused, seat)
        self.keep()
        for seat in seats:
            self.ballots[ballot][2] = word
            if seat not in self.voters(ballot):
                self.votes.append((seat, ballot))
        return self.decided().get(ballot)

    def change(self, reading, writing):
        if self.strict:
            for other in [ballot[1] for ballot in self.ballots] + [writing]:
                if not is_safe(self.book, self.order, reading, other):
                    raise Turned(Refused, (reading, other))
        self.keep()
        self.reading, self.writing = reading, writing

    def undo(self, many):
        if many > len(self.past):
            raise Turned(NothingToUndo, many)
        for _ in range(many):
            self.reading, self.writing, self.ballots, self.votes, self.bound = self.past.pop()

    def decided(self):
        return {number: ballot[2] for number, ballot in enumerate(self.ballots)
                if self.holds(ballot[1], self.voters(number))}

    def state(self):
        seats = range(self.book.width ** self.order)
        votes = {seat: (self.last(seat), self.ballots[self.last(seat)][2]) for seat in seats
                 if self.last(seat) is not None}
        bound = {seat: self.latest(seat) for seat in seats if self.latest(seat) is not None}
        decided = self.decided()
        words = tuple(sorted(set(decided.values())))
        text = (f"council of {len(seats)} seats, {len(self.ballots)} ballots, "
                f"decided {' '.join(words) if words else 'nothing'}")
        return (self.reading, self.writing, tuple(map(tuple, self.ballots)), votes, bound, decided, words, text)


def is_safe(book, order, reading, writing):
    """A plain look at all least quorums of both."""
    key = (book.lines, order, reading, writing)
    if key not in SAFE:
        one, other = (samples.least_quorums(book, kind, order) for kind in (reading, writing))
        SAFE[key] = all(set(a) & set(b) for a, b in itertools.product(one, other))
    return SAFE[key]


SAFE = {}


def state(council):
    """What a council tells, with its dicts, whose keys ascend."""
    for table in (council.votes, council.bound, council.decided):
        assert list(table) == sorted(table)
    return (council.reading, council.writing, council.ballots, council.votes, council.bound, council.decided,
            council.words, str(council))


def outcome(call):
    """What a call returns, or the error that it raises and what that keeps."""
    try:
        return ("ends", call())
    except Turned as turned:
        return (turned.error, turned.told)
    except (NoQuorum, Refused, NothingToUndo, TooMany) as error:
        return (type(error), list(vars(error).values())[0])


def some_seats(book, order, chosen, reading):
    """A crowd, most often one that holds a kind."""
    many = book.width ** order
    if chosen.random() < 0.6:
        seats = set(chosen.choice(samples.least_quorums(book, reading, order)))
        return tuple(sorted(seats | set(chosen.sample(range(many), chosen.randrange(0, 2)))))
    return tuple(sorted(chosen.sample(range(many), chosen.randrange(0, min(many, 4) + 1))))


def deed(council, record, chosen):
    """The same deed done by both: what comes of it."""
    book, order = record.book, record.order
    pick = chosen.random()
    if pick < 0.3 or not record.ballots:
        seats = some_seats(book, order, chosen, record.reading)
        return outcome(lambda: council.begin(seats)), outcome(lambda: record.begin(seats))
    if pick < 0.8:
        ballot = chosen.choice([len(record.ballots) - 1, chosen.randrange(len(record.ballots))])
        word = record.ballots[ballot][2] if chosen.random() < 0.8 else None
        word = word or chosen.choice(WORDS)
        seats = some_seats(book, order, chosen, record.writing)
        return outcome(lambda: council.vote(ballot, word, seats)), outcome(lambda: record.vote(ballot, word, seats))
    if pick < 0.88:
        kinds = chosen.choice(book.kinds), chosen.choice(book.kinds)
        return (outcome(lambda: council.change(reading=kinds[0], writing=kinds[1])),
                outcome(lambda: record.change(*kinds)))
    many = chosen.choice([0, 1, 1, 2, len(record.past) + 1])
    return outcome(lambda: council.undo(many=many)), outcome(lambda: record.undo(many))


def councils(seed):
    """Councils and their records, strict ones if the kinds are safe, and others."""
    chosen = random.Random(seed)
    books = [(MAJ, 1), (MAJ, 2), (TREE, 2), (FREE, 1), (MIXED, 1), (MIXED, 2), (ROWS, 2), (ROWS, 3), (ODD, 1), (LONG, 1)]
    for book, order in books:
        for _ in range(3):
            reading, writing = chosen.choice(book.kinds), chosen.choice(book.kinds)
            for strict in (True, False):
                if not strict or is_safe(book, order, reading, writing):
                    council = Council(book, order, reading=reading, writing=writing, strict=strict)
                    yield council, Record(book, order, reading, writing, strict), random.Random(chosen.random())


class Example(unittest.TestCase):
    def test_the_examples_of_the_document(self):
        council = Council(MAJ, 1, reading="a", writing="a")
        self.assertEqual(
            [council.begin((0, 1)), council.vote(0, "yes", (0,)), council.vote(0, "yes", (1,)), council.begin((1, 2)),
             council.vote(1, "yes", (0, 2)), str(council)],
            [(0, None), None, "yes", (1, "yes"), "yes", "council of 3 seats, 2 ballots, decided yes"])
        self.assertEqual(
            [council.decided, council.votes, council.bound, council.undo(many=2), len(council), "yes" in council],
            [{0: "yes", 1: "yes"}, {0: (1, "yes"), 1: (0, "yes"), 2: (1, "yes")}, {0: 0, 1: 1, 2: 1}, None, 1, True])
        self.assertRaises(Refused, council.vote, 0, "no", (2,))
        self.assertEqual(
            [breaking_deeds(MAJ, 1, "a", "a"), breaking_deeds(FREE, 1, "r", "r")[0][0],
             Council(FREE, 1, reading="w", writing="r").strict],
            [None, "begin", True])

    def test_constants_and_names(self):
        self.assertEqual((MAX_SEATS, MAX_BALLOTS), (4096, 200))
        for name in ("Council", "breaking_deeds"):
            self.assertEqual(getattr(module, name).__module__, "grownquorums.use.council")
        for name in ("begin vote change undo twin trial during book order reading writing strict ballots decided "
                     "words votes bound __contains__ __len__ __eq__ __str__").split():
            self.assertIn(name, vars(Council))


class Histories(unittest.TestCase):
    def look(self, council, record):
        self.assertEqual(state(council), record.state())
        self.assertEqual((council.book, council.order, council.strict), (record.book, record.order, record.strict))
        self.assertEqual(len(council), len(record.ballots))
        for word in WORDS:
            self.assertIs(word in council, word in council.words)

    def test_long_histories(self):
        found = {}
        for seed in range(6):
            for council, record, chosen in councils(seed):
                for _ in range(40):
                    one, other = deed(council, record, chosen)
                    self.assertEqual(one, other)
                    found[one[0]] = found.get(one[0], 0) + 1
                    self.look(council, record)
                    if council.strict:
                        self.assertLessEqual(len(council.words), 1)
        self.assertGreater(min(found[word] for word in ("ends", NoQuorum, Refused, NothingToUndo)), 100)

    def test_strict_councils_decide_one_word(self):
        many = 0
        for seed in range(10, 40):
            for council, record, chosen in councils(seed):
                if council.strict and council.order < 3:
                    for _ in range(25):
                        seats = some_seats(record.book, record.order, chosen, council.reading)
                        outcome(lambda: council.begin(seats))
                        for ballot in range(len(council)):
                            word = council.ballots[ballot][2] or chosen.choice(WORDS)
                            seats = some_seats(record.book, record.order, chosen, council.writing)
                            outcome(lambda: council.vote(ballot, word, seats))
                        kinds = chosen.choice(council.book.kinds), chosen.choice(council.book.kinds)
                        outcome(lambda: council.change(reading=kinds[0], writing=kinds[1]))
                    self.assertLessEqual(len(council.words), 1)
                    many += len(council.words)
        self.assertGreater(many, 100)

    def test_back_to_a_new_council(self):
        for council, record, chosen in councils(50):
            new = council.twin()
            states = [state(council)]
            for _ in range(60):
                before = len(states)
                one, other = deed(council, record, chosen)
                self.assertEqual(one, other)
                if one[0] == "ends":
                    # Deeds that are refused are none to take back, and neither are those that were taken back.
                    del states[len(record.past):]
                    states.append(state(council))
                    self.assertLessEqual(len(states), before + 1)
            while states[1:]:
                self.assertEqual(state(council), states.pop())
                council.undo()
            self.assertEqual(state(council), states[0])
            self.assertEqual(council, new)
            with self.assertRaises(NothingToUndo) as caught:
                council.undo()
            self.assertEqual(caught.exception.many, 1)
            council.undo(many=0)

    def test_twins(self):
        for council, record, chosen in councils(60):
            for _ in range(8):
                for _ in range(5):
                    deed(council, record, chosen)
                twin, other = council.twin(), copy.deepcopy(record)
                self.assertIs(twin == council, True)
                for _ in range(5):
                    one, two = deed(twin, other, chosen)
                    self.assertEqual(one, two)
                self.look(twin, other)
                self.look(council, record)
                many = len(other.past)
                self.assertEqual(outcome(lambda: twin.undo(many=many)), outcome(lambda: other.undo(many)))
                self.look(twin, other)
                self.look(council, record)

    def test_trials(self):
        for council, record, chosen in councils(70):
            for turn in range(8):
                for _ in range(4):
                    deed(council, record, chosen)
                before, other = state(council), copy.deepcopy(record)
                if turn % 2:
                    with council.trial() as same:
                        self.assertIs(same, council)
                        for _ in range(6):
                            self.assertEqual(*deed(council, other, chosen))
                        council.undo(many=len(other.past))
                else:
                    with self.assertRaises(KeyError):
                        with council.trial() as same:
                            for _ in range(6):
                                self.assertEqual(*deed(same, other, chosen))
                            raise KeyError(turn)
                self.assertEqual(state(council), before)
                self.look(council, record)
            many = len(record.past)
            self.assertEqual(outcome(lambda: council.undo(many=many)), outcome(lambda: record.undo(many)))
            self.look(council, record)

    def test_a_trial_begins_where_its_block_begins(self):
        council = Council(MAJ, 1, reading="a", writing="a")
        trial = council.trial()
        council.begin((0, 1))
        with trial as same:
            same.vote(0, "yes", (0, 1))
        self.assertEqual((len(council), council.votes), (1, {}))
        with council.trial():
            council.undo()
            with council.trial() as inner:
                inner.begin((1, 2))
                inner.begin((0, 2))
            self.assertEqual((len(council), council.bound), (0, {}))
            council.begin((0, 1, 2))
        self.assertEqual(council.bound, {0: 0, 1: 0})

    def test_during(self):
        council = Council(MAJ, 1, reading="a", writing="a")
        council.begin((0, 1))
        self.assertEqual(council.during(lambda same: (same is council, same.vote(0, "yes", (0, 2)), len(same))),
                         (True, "yes", 1))
        self.assertEqual(council.during(lambda same: [same.undo(), len(same)]), [None, 0])
        self.assertEqual(council.during(lambda same: same.during(lambda last: last.begin((1, 2)))), (1, None))

        def failing(same):
            same.begin((1, 2))
            raise ValueError("it goes on")

        with self.assertRaises(ValueError) as caught:
            council.during(failing)
        self.assertEqual(str(caught.exception), "it goes on")
        self.assertRaises(NoQuorum, council.during, lambda same: same.begin((0,)))
        self.assertEqual((len(council), council.votes, council.bound), (1, {}, {0: 0, 1: 0}))


class Ballots(unittest.TestCase):
    def test_a_seat_that_is_bound_to_a_later_ballot(self):
        council = Council(MAJ, 1, reading="a", writing="a")
        council.begin((0, 1))
        council.vote(0, "yes", (0,))
        council.begin((0, 2))
        with self.assertRaises(Refused) as caught:
            council.vote(0, "yes", (0, 1, 2))
        self.assertEqual(caught.exception.reason, 2)
        before = state(council)
        # It has already voted in this ballot, so that nothing changes.
        self.assertIsNone(council.vote(0, "yes", (0,)))
        self.assertEqual(state(council), before)
        self.assertEqual(council.vote(0, "yes", (0, 1)), "yes")
        self.assertEqual(council.votes, {0: (0, "yes"), 1: (0, "yes")})

    def test_a_seat_that_has_voted_in_a_later_ballot(self):
        council = Council(FREE, 1, reading="r", writing="r", strict=False)
        for seats in ((0,), (0,), (0,)):
            council.begin(seats)
        self.assertEqual(council.vote(1, "yes", (1,)), "yes")
        with self.assertRaises(Refused) as caught:
            council.vote(0, "yes", (1, 2))
        self.assertEqual(caught.exception.reason, 1)
        self.assertEqual(council.vote(2, "no", (1,)), "no")
        self.assertEqual((council.votes, council.words, str(council)), (
            {1: (2, "no")}, ("no", "yes"), "council of 3 seats, 3 ballots, decided no yes"))
        self.assertEqual(council.vote(1, "yes", (1,)), "yes")
        self.assertEqual(council.votes, {1: (2, "no")})

    def test_the_word_of_the_greatest_ballot(self):
        council = Council(FREE, 1, reading="r", writing="r", strict=False)
        council.begin((0,))
        council.begin((1,))
        council.vote(1, "no", (1,))
        council.vote(0, "yes", (2,))
        self.assertEqual([council.begin(seats)[1] for seats in ((0,), (2,), (1, 2), (0, 2), (0, 1))],
                         [None, "yes", "no", "yes", "no"])

    def test_a_free_ballot_takes_the_first_word(self):
        council = Council(MAJ, 1, reading="a", writing="a")
        council.begin((0, 1))
        # No seats vote here.
        self.assertIsNone(council.vote(0, "no", ()))
        self.assertEqual(council.ballots, (("a", "a", None),))
        self.assertIsNone(council.vote(0, "yes", (1,)))
        self.assertEqual(council.ballots, (("a", "a", "yes"),))
        for seats in ((), (0,)):
            with self.assertRaises(Refused) as caught:
                council.vote(0, "no", seats)
            self.assertEqual(caught.exception.reason, "yes")
        self.assertEqual(council.vote(0, "yes", (2,)), "yes")
        self.assertEqual(council.vote(0, "yes", ()), "yes")
        council.undo(many=4)
        self.assertEqual(council.ballots, (("a", "a", None),))

    def test_the_writing_kind_of_the_beginning_decides(self):
        council = Council(MIXED, 1, reading="w", writing="r")
        council.begin((0, 1, 2))
        council.change(reading="w", writing="w")
        council.begin((0, 1, 2))
        self.assertEqual(council.vote(1, "yes", (0, 1)), None)
        self.assertEqual(council.ballots, (("w", "r", None), ("w", "w", "yes")))
        self.assertEqual(council.vote(1, "yes", (2,)), "yes")
        other = Council(MIXED, 1, reading="w", writing="w")
        other.begin((0, 1, 2))
        other.change(reading="w", writing="r")
        self.assertEqual([other.vote(0, "no", (seat,)) for seat in (2, 0, 1)], [None, None, "no"])

    def test_the_order_0(self):
        council = Council(MIXED, 0, reading="w", writing="x")
        self.assertEqual([council.begin((0,)), council.vote(0, "yes", (0,)), council.begin((0,)), str(council)],
                         [(0, None), "yes", (1, "yes"), "council of 1 seats, 2 ballots, decided yes"])

    def test_200_ballots(self):
        council = Council(MAJ, 1, reading="a", writing="a")
        for number in range(200):
            self.assertEqual(council.begin((0, 1)), (number, None))
        for seats in ((0, 1), (0, 1, 2)):
            with self.assertRaises(TooMany) as caught:
                council.begin(seats)
            self.assertEqual(caught.exception.limit, 200)
        self.assertRaises(NoQuorum, council.begin, (0,))
        self.assertRaises(InvalidOperation, council.begin, (1, 0))
        council.undo()
        self.assertEqual(council.begin((1, 2)), (199, None))
        self.assertEqual(council.vote(199, "yes", (1, 2)), "yes")


class Safe(unittest.TestCase):
    def test_a_strict_council_is_made_and_changed_as_pairs_are_safe(self):
        found = {True: 0, False: 0}
        for book in (MAJ, TREE, FREE, MIXED, ROWS, ODD, LONG):
            for order in range(3):
                for reading, writing in itertools.product(book.kinds, repeat=2):
                    if len(samples.least_quorums(book, reading, order)) > 300:
                        continue
                    expected = is_safe(book, order, reading, writing)
                    found[expected] += 1
                    self.look(book, order, (reading, writing), expected)
        self.assertGreater(min(found.values()), 50)

    def look(self, book, order, pair, expected):
        reading, writing = pair
        self.assertIs(meets_at(book, tuple(sorted(pair)), order), expected)
        made = outcome(lambda: Council(book, order, reading=reading, writing=writing).strict)
        self.assertEqual(made, ("ends", True) if expected else (Refused, pair))
        other = Council(book, order, reading=reading, writing=writing, strict=False)
        self.assertIs(other.strict, False)
        deeds = breaking_deeds(book, order, reading, writing)
        self.assertIs(deeds is None, expected)
        if deeds is None:
            return
        self.assertIsInstance(deeds, tuple)
        for word, *values in deeds:
            self.assertIn(word, ("begin", "vote"))
            {"begin": other.begin, "vote": other.vote}[word](*values)
        self.assertEqual(len(other.words), 2)

    def test_the_first_pair_that_is_not_safe(self):
        council = Council(MIXED, 1, reading="w", writing="r")
        seats = (0, 1, 2)
        council.begin(seats)
        for writing in ("a", "w", "a"):
            council.change(reading="w", writing=writing)
            council.begin(seats)
        for reading, writing, pair in (("r", "w", ("r", "r")), ("a", "w", ("a", "r")), ("a", "r", ("a", "r"))):
            with self.assertRaises(Refused) as caught:
                council.change(reading=reading, writing=writing)
            self.assertEqual(caught.exception.reason, pair)
        other = Council(MIXED, 1, reading="w", writing="w")
        other.begin(seats)
        other.change(reading="w", writing="a")
        other.begin(seats)
        for reading, writing, pair in (("r", "r", ("r", "a")), ("r", "w", ("r", "a")), ("a", "r", ("a", "r"))):
            with self.assertRaises(Refused) as caught:
                other.change(reading=reading, writing=writing)
            self.assertEqual(caught.exception.reason, pair)
        other.change(reading="a", writing="a")
        self.assertEqual((other.reading, other.writing, len(other)), ("a", "a", 2))
        other.undo()
        self.assertEqual((other.reading, other.writing), ("w", "a"))

    def test_the_pair_is_kept_in_the_order_of_reading_and_writing(self):
        for reading, writing in (("r", "a"), ("a", "r")):
            with self.assertRaises(Refused) as caught:
                Council(MIXED, 1, reading=reading, writing=writing)
            self.assertEqual(caught.exception.reason, (reading, writing))
            deeds = breaking_deeds(MIXED, 1, reading, writing)
            for word, *values in deeds:
                kind = reading if word == "begin" else writing
                self.assertIs(crowd_holds(MIXED, kind, 1, values[-1]), True)

    def test_a_council_that_is_not_strict_refuses_no_kinds(self):
        council = Council(FREE, 2, reading="r", writing="r", strict=False)
        council.change(reading="g", writing="r")
        self.assertEqual((council.reading, council.writing), ("g", "r"))

    def test_great_orders(self):
        for book in (FREE, ROWS, ODD, samples.random_book(5, 3, 1)):
            order = LAST_ORDERS[book.width]
            for reading, writing in itertools.product(book.kinds, repeat=2):
                self.look(book, order, (reading, writing), meets_at(book, tuple(sorted((reading, writing))), order))


class Quick(unittest.TestCase):
    def test_thousands_of_seats_and_200_ballots(self):
        start = time.process_time()
        for book in (samples.random_book(2, 6, 1), samples.random_book(4, 6, 1)):
            order, kind = LAST_ORDERS[book.width], book.kinds[0]
            every = tuple(range(4096))
            council = Council(book, order, reading=kind, writing=kind, strict=False)
            for number in range(200):
                self.assertEqual(council.begin(every), (number, "yes" if number else None))
                self.assertEqual(council.vote(number, "yes", every), "yes")
                self.assertEqual(len(council.decided), number + 1)
            self.assertEqual(council.votes, {seat: (199, "yes") for seat in every})
            self.assertEqual(council.bound, {seat: 199 for seat in every})
            for _ in range(20):
                with council.trial() as same:
                    same.undo(many=300)
                self.assertIs(council == council.twin(), True)
            council.undo(many=399)
            for seat in every:
                council.vote(0, "no", (seat,))
            self.assertEqual(council.decided, {0: "no"})
            council.undo(many=4096)
            self.assertEqual((council.votes, len(council)), ({}, 1))
        self.assertLess(time.process_time() - start, 20)


NO_CROWDS = tuple(value for value in samples.VALUES if value != (0,)) + (
    (9,), (-1,), (1, 0), (0, 0), (0, 9), (True,), (0, True), [0, 1], "01", {0: 1}, (0, None), ((0,),), (10 ** 400,), None,
)
NO_WORDS = tuple(value for value in samples.VALUES if value not in ("a", "aa", "at", "t")) + (
    "", "abcdefghi", "Yes", "yes ", " yes", "y s", "y1", "yes\n", "x" * 8000, "-", ("yes",), ["yes"], {"yes": 1},
)


def new_council():
    council = Council(MAJ, 2, reading="a", writing="a")
    council.begin((0, 1, 3, 4))
    return council


class Wrong(Refusal, unittest.TestCase):
    GOOD = {"book": MAJ, "order": 2, "reading": "a", "writing": "a", "strict": False, "seats": (0, 1, 3, 4),
            "ballot": 0, "word": "abcdefgh", "many": 1}
    WRONG = {
        "book": (samples.NO_BOOKS, InvalidBook),
        "order": (samples.NO_ORDERS, InvalidNumber),
        "reading": (samples.NO_KINDS, UnknownName),
        "writing": (samples.NO_KINDS, UnknownName),
        "strict": (tuple(value for value in samples.VALUES if value not in (True, False)) + (
            None, "True", 0, 1, (True,)), InvalidOperation),
        "seats": (NO_CROWDS, InvalidOperation),
        "ballot": (plain.ODD_VALUES + plain.LONG_INTEGERS + plain.FULL_INTEGERS + (
            True, False, -1, 1, 200, "0", (0,), [0]), InvalidNumber),
        "word": (NO_WORDS, InvalidOperation),
        "many": (plain.ODD_VALUES + plain.LONG_INTEGERS + (
            True, False, -1, 1 - 10 ** 400, "1", (1,), [1]), InvalidNumber),
    }
    CALLS = (
        (lambda book, order, reading, writing, strict: Council(
            book, order, strict=strict, writing=writing, reading=reading),
         ("book", "order", "reading", "writing", "strict")),
        (lambda seats: new_council().begin(seats), ("seats",)),
        (lambda ballot, word, seats: new_council().vote(ballot, word, seats), ("ballot", "word", "seats")),
        (lambda reading, writing: new_council().change(writing=writing, reading=reading), ("reading", "writing")),
        (lambda many: new_council().undo(many=many), ("many",)),
        (breaking_deeds, ("book", "order", "reading", "writing")),
    )

    def refused_call(self, call, error, told):
        with self.assertRaises(error) as caught:
            call()
        self.assertIs(type(caught.exception), error)
        self.assertEqual(list(vars(caught.exception).values())[:1], told)

    def test_what_comes_then(self):
        for book, last in ((ROWS, 12), (MAJ, 7), (ODD, 6), (samples.random_book(5, 2, 1), 5)):
            kind = book.kinds[0]
            Council(book, last, reading=kind, writing=kind, strict=False)
            breaking_deeds(book, last, kind, kind)
            for order in (last + 1, 13, 200):
                for strict in (True, False):
                    self.refused_call(lambda: Council(book, order, reading=kind, writing=kind, strict=strict),
                                      TooMany, [4096])
                self.refused_call(lambda: breaking_deeds(book, order, kind, kind), TooMany, [4096])
                self.refused_call(lambda: breaking_deeds(book, order, kind, "?"), UnknownName, ["?"])
                self.refused_call(lambda: Council(book, order, reading=kind, writing=kind, strict=1), InvalidOperation, [])
                self.refused_call(lambda: Council(book, order, reading=kind, writing="?"), UnknownName, ["?"])
        self.refused_call(lambda: Council(FREE, 1, reading="r", writing="r", strict=None), InvalidOperation, [])
        self.refused_call(lambda: Council(FREE, 1, reading="r", writing="r"), Refused, [("r", "r")])
        council = new_council()
        council.vote(0, "yes", (0,))
        council.begin((1, 2, 4, 5))
        self.refused_call(lambda: council.vote(0, "no", (1, 0)), InvalidOperation, [])
        self.refused_call(lambda: council.vote(0, "no", (1,)), Refused, ["yes"])
        self.refused_call(lambda: council.vote(0, "yes", (0, 3, 4, 5)), Refused, [4])
        self.refused_call(lambda: council.undo(many=4), NothingToUndo, [4])
        self.refused_call(lambda: council.undo(many=10 ** 399), NothingToUndo, [10 ** 399])
        self.refused_call(lambda: council.begin((0,)), NoQuorum, ["a"])
        strict = Council(MIXED, 1, reading="w", writing="r")
        self.refused_call(lambda: strict.change(reading="r", writing="?"), UnknownName, ["?"])
        self.refused_call(lambda: strict.change(reading="r", writing="r"), Refused, [("r", "r")])

    def test_what_is_passed_by_keyword(self):
        for call in (lambda: Council(MAJ, 1, "a", "a"), lambda: Council(MAJ, 1, reading="a"),
                     lambda: new_council().change("a", "a"), lambda: new_council().undo(1)):
            self.assertRaises(TypeError, call)

    def test_calls_that_are_refused_change_nothing(self):
        council = new_council()
        council.vote(0, "yes", (0, 1))
        before = state(council)
        for function, kinds in (("begin", ("seats",)), ("vote", ("ballot", "word", "seats"))):
            for kind in kinds:
                for value in self.WRONG[kind][0]:
                    values = [value if other == kind else self.GOOD[other] for other in kinds]
                    self.assertRaises(self.WRONG[kind][1], getattr(council, function), *values)
        for value in samples.NO_KINDS:
            self.assertRaises(UnknownName, council.change, reading=value, writing="a")
            self.assertRaises(UnknownName, council.change, reading="a", writing=value)
        for value in self.WRONG["many"][0]:
            self.assertRaises(InvalidNumber, council.undo, many=value)
        self.assertRaises(NothingToUndo, council.undo, many=3)
        self.assertEqual(state(council), before)
        council.undo(many=2)
        self.assertRaises(NothingToUndo, council.undo)


class Kept(unittest.TestCase):
    def test_what_is_returned_shares_nothing(self):
        council = new_council()
        council.vote(0, "yes", (0, 1, 3, 4))
        before = state(council)
        for table in (council.votes, council.bound, council.decided):
            table.clear()
        self.assertEqual(state(council), before)
        for name in "book order reading writing strict ballots decided words votes bound".split():
            self.assertRaises(AttributeError, setattr, council, name, None)

    def test_any_value_can_be_compared_and_sought(self):
        council = new_council()
        council.vote(0, "yes", (0, 1, 3, 4))
        for value in samples.VALUES + NO_CROWDS + NO_WORDS + (council.ballots, "yes ", ("yes",), str(council)):
            self.assertIs(council == value, False)
            self.assertIs(council != value, True)
            self.assertIs(value in council, False)
        self.assertIs("yes" in council, True)
        for function in (iter, list, tuple):
            self.assertRaises(TypeError, function, council)

    def test_equal_councils(self):
        def pair():
            return [Council(MIXED, 1, reading="w", writing="w", strict=False) for _ in range(2)]

        one, other = pair()
        self.assertIs(one == other, True)
        self.assertIs(one != other, False)
        for call in (lambda council: council.begin((0, 1, 2)), lambda council: council.vote(0, "yes", (1,)),
                     lambda council: council.vote(0, "yes", (2,)), lambda council: council.change(reading="a", writing="w"),
                     lambda council: council.begin((0, 1)), lambda council: council.vote(1, "yes", (1,))):
            call(one)
            self.assertIs(one == other, False)
            self.assertIs(one != other, True)
            call(other)
            self.assertIs(one == other, True)
        # Deeds that lead to the same are the same, however they came about.
        one, other = pair()
        one.begin((0, 1, 2))
        other.begin((0, 1, 2))
        one.vote(0, "yes", (0,))
        one.vote(0, "yes", (1,))
        other.vote(0, "yes", (0, 1))
        self.assertIs(one == other, True)
        for other in (Council(MIXED, 1, reading="w", writing="w"), Council(MIXED, 2, reading="w", writing="w", strict=False),
                      Council(MIXED, 1, reading="w", writing="a", strict=False),
                      Council(MIXED, 1, reading="a", writing="w", strict=False),
                      Council(FREE, 1, reading="w", writing="w", strict=False)):
            self.assertIs(pair()[0] == other, False)

    def test_only_the_latest_ballot_of_a_bound_seat_counts(self):
        one, other = [Council(FREE, 1, reading="r", writing="r", strict=False) for _ in range(2)]
        one.begin((0, 1))
        other.begin((1,))
        self.assertIs(one == other, False)
        one.begin((0, 2))
        other.begin((0, 2))
        self.assertEqual(one.bound, other.bound)
        self.assertIs(one == other, True)

    def test_the_voters_of_each_ballot_count(self):
        one, other = [Council(FREE, 1, reading="r", writing="g", strict=False) for _ in range(2)]
        for council in (one, other):
            council.begin((2,))
            council.begin((2,))
        one.vote(0, "yes", (0,))
        other.vote(0, "yes", (1,))
        for council in (one, other):
            council.vote(1, "yes", (0, 1))
        self.assertEqual((one.votes, one.bound, one.ballots), (other.votes, other.bound, other.ballots))
        self.assertIs(one == other, False)


if __name__ == "__main__":
    unittest.main()
