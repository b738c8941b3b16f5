"""A council: ballots in which seats vote for words, and never decide apart."""

from grownquorums.base.powers import power
from grownquorums.base.words import is_count, is_letter
from grownquorums.books.books import check_book, check_kind
from grownquorums.decide.meets import meets_at, split_at
from grownquorums.errors import InvalidNumber, InvalidOperation, NoQuorum, NothingToUndo, Refused, TooMany
from grownquorums.seats.seats import check_crowd, check_few_seats, check_order
from grownquorums.use.marks import are_holding, lowest_mark, marked, marks

MAX_SEATS = 4096
MAX_BALLOTS = 200

_MAX_LETTERS = 8
_BEGIN = "begin"
_VOTE = "vote"


class Ballot:
    """One ballot: its kinds, its word, and as bits the seats that were bound to it, and those that voted in it.

    It never changes, so that councils can share it with each other and with their past.
    """

    def __init__(self, reader, writer, said, tied, cast, is_settled):
        self.reader = reader
        self.writer = writer
        self.said = said
        self.tied = tied
        self.cast = cast
        self.is_settled = is_settled


class Trial:
    """A block behind which a council is as it was before it."""

    def __init__(self, council):
        self._council = council

    def __enter__(self):
        council = self._council
        self._reading = council._reading
        self._writing = council._writing
        self._ballots = council._ballots
        self._log = list(council._log)
        return council

    def __exit__(self, *told):
        council = self._council
        council._reading = self._reading
        council._writing = self._writing
        council._ballots = self._ballots
        council._log = self._log


def _check(book, order, reading, writing):
    check_book(book)
    check_order(order)
    check_kind(book, reading)
    check_kind(book, writing)


def _group_of(reading, writing):
    return tuple(sorted([reading, writing]))


def _check_safe(book, order, reading, writings):
    """Refuse the first pair of the reading kind and a writing kind that is not safe."""
    # A writing kind that comes again is as safe as before.
    for writing in {kind: True for kind in writings}:
        if not meets_at(book, _group_of(reading, writing), order):
            raise Refused((reading, writing))


def _is_word(value):
    return isinstance(value, str) and 1 <= len(value) <= _MAX_LETTERS and all([is_letter(sign) for sign in value])


def _told(words):
    return " ".join(words) if words else "nothing"


def _last_word(ballots, bits):
    """The word of the last ballot in which one of the seats has voted, None if none has."""
    for ballot in ballots[::-1]:
        if ballot.cast & bits:
            return ballot.said
    return None


def _busy_bits(ballots):
    """The seats that are bound to one of the ballots, or have voted in one."""
    bits = 0
    for ballot in ballots:
        bits = bits | ballot.tied | ballot.cast
    return bits


def _latest(rows):
    """For each row of bits those that are in no later one."""
    found = []
    later = 0
    for bits in rows[::-1]:
        found.append(bits & ~later)
        later = later | bits
    return found[::-1]


def _last_ballots(rows):
    """All pairs of a seat and of the last row of bits in which it is, by the seats."""
    return sorted([(seat, number) for number, bits in enumerate(_latest(rows)) for seat in marks(bits)])


class Council:
    """A book, an order, two kinds, and ballots for which seats are bound and in which they vote."""

    def __init__(self, book, order, *, reading, writing, strict=True):
        _check(book, order, reading, writing)
        if not isinstance(strict, bool):
            raise InvalidOperation("strict is neither True nor False")
        check_few_seats(book.width, order)
        if strict:
            _check_safe(book, order, reading, [writing])
        self._book = book
        self._order = order
        self._size = power(book.width, order)
        self._reading = reading
        self._writing = writing
        self._strict = strict
        self._ballots = ()
        # For each deed the kinds before it, and one ballot as it was before it, None if there was none.
        self._log = []

    @property
    def book(self):
        """The book."""
        return self._book

    @property
    def order(self):
        """The order of the seats."""
        return self._order

    @property
    def reading(self):
        """The kind that is held by the seats that are bound to the next ballot."""
        return self._reading

    @property
    def writing(self):
        """The kind that is held by the seats that decide a word in the next ballot."""
        return self._writing

    @property
    def strict(self):
        """Whether pairs of kinds that are not safe are refused."""
        return self._strict

    @property
    def ballots(self):
        """For all ballots the reading kind, the writing kind and the word."""
        return tuple([(ballot.reader, ballot.writer, ballot.said) for ballot in self._ballots])

    @property
    def decided(self):
        """A dict from the ballots in which a word is decided to it."""
        return {number: ballot.said for number, ballot in enumerate(self._ballots) if ballot.is_settled}

    @property
    def words(self):
        """The decided words, ascending."""
        return tuple(sorted(set([ballot.said for ballot in self._ballots if ballot.is_settled])))

    @property
    def votes(self):
        """A dict from the seats that have voted to their last votes, pairs of a ballot and a word."""
        lasts = _last_ballots([ballot.cast for ballot in self._ballots])
        return {seat: (number, self._ballots[number].said) for seat, number in lasts}

    @property
    def bound(self):
        """A dict from the bound seats to their ballots."""
        return {seat: number for seat, number in _last_ballots([ballot.tied for ballot in self._ballots])}

    def _keep(self, number, ballot):
        self._log.append((self._reading, self._writing, number, ballot))

    def begin(self, seats):
        """Bind seats to a new ballot; its number, and its word, None if it is free."""
        check_crowd(self._book.width, self._order, seats)
        bits = marked(seats)
        if not are_holding(self._book, self._reading, self._order, bits):
            raise NoQuorum(self._reading)
        number = len(self._ballots)
        if number == MAX_BALLOTS:
            raise TooMany(MAX_BALLOTS)
        word = _last_word(self._ballots, bits)
        self._keep(number, None)
        self._ballots = (*self._ballots, Ballot(self._reading, self._writing, word, bits, 0, False))
        return (number, word)

    def vote(self, ballot, word, seats):
        """Let seats vote in a ballot for a word; the word that is decided in it now, None if none is."""
        if not is_count(ballot) or ballot >= len(self._ballots):
            raise InvalidNumber(ballot)
        if not _is_word(word):
            raise InvalidOperation("no word")
        check_crowd(self._book.width, self._order, seats)
        last = self._ballots[ballot]
        if last.said is not None and last.said != word:
            raise Refused(last.said)
        bits = marked(seats)
        stopped = bits & ~last.cast & _busy_bits(self._ballots[ballot + 1:])
        if stopped:
            raise Refused(lowest_mark(stopped))
        self._keep(ballot, last)
        fresh = self._with_votes(last, word, bits)
        self._ballots = (*self._ballots[:ballot], fresh, *self._ballots[ballot + 1:])
        return word if fresh.is_settled else None

    def _with_votes(self, ballot, word, bits):
        """The ballot in which these seats, perhaps none, have voted as well."""
        if not bits & ~ballot.cast:
            return ballot
        cast = ballot.cast | bits
        is_settled = ballot.is_settled or are_holding(self._book, ballot.writer, self._order, cast)
        return Ballot(ballot.reader, ballot.writer, word, ballot.tied, cast, is_settled)

    def change(self, *, reading, writing):
        """Take other kinds for the ballots to come."""
        check_kind(self._book, reading)
        check_kind(self._book, writing)
        if self._strict:
            writings = [ballot.writer for ballot in self._ballots]
            _check_safe(self._book, self._order, reading, writings + [writing])
        self._keep(len(self._ballots), None)
        self._reading = reading
        self._writing = writing

    def undo(self, *, many=1):
        """Take back the last deeds, so many."""
        if not is_count(many):
            raise InvalidNumber(many)
        if many > len(self._log):
            raise NothingToUndo(many)
        ballots = list(self._ballots)
        for _ in range(many):
            self._reading, self._writing, number, ballot = self._log.pop()
            ballots[number:number + 1] = [] if ballot is None else [ballot]
        self._ballots = tuple(ballots)

    def twin(self):
        """An independent copy, with the deeds that can be taken back."""
        other = Council(self._book, self._order, reading=self._reading, writing=self._writing, strict=False)
        other._strict = self._strict
        other._ballots = self._ballots
        other._log = list(self._log)
        return other

    def trial(self):
        """A block that gives the council itself, and behind which it is as before."""
        return Trial(self)

    def during(self, call):
        """What a call with the council returns in a trial."""
        with self.trial() as same:
            return call(same)

    def _state(self):
        """All by which councils are equal."""
        rows = [(ballot.reader, ballot.writer, ballot.said, ballot.cast) for ballot in self._ballots]
        bound = _latest([ballot.tied for ballot in self._ballots])
        return (self._book, self._order, self._reading, self._writing, self._strict, rows, bound)

    def __contains__(self, value):
        return value in self.words

    def __len__(self):
        return len(self._ballots)

    def __eq__(self, other):
        return isinstance(other, Council) and self._state() == other._state()

    def __str__(self):
        return f"council of {self._size} seats, {len(self._ballots)} ballots, decided {_told(self.words)}"


def breaking_deeds(book, order, reading, writing):
    """Deeds by which a council that is not strict decides two words, None if the pair is safe."""
    _check(book, order, reading, writing)
    check_few_seats(book.width, order)
    quorums = split_at(book, _group_of(reading, writing), order)
    if quorums is None:
        return None
    readers, writers = quorums if reading <= writing else quorums[::-1]
    return ((_BEGIN, readers), (_VOTE, 0, "no", writers), (_BEGIN, readers), (_VOTE, 1, "yes", writers))
