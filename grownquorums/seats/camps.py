"""Camps: sets of seats of every order, given by states."""

from grownquorums.base.lines import entries_of, width_in, width_line
from grownquorums.base.sets import check_width
from grownquorums.base.words import is_count, is_letter
from grownquorums.books.books import check_book, check_kind
from grownquorums.books.rules import is_row
from grownquorums.errors import InvalidCamp, InvalidNumber, InvalidOperation, InvalidSeat, TooMany
from grownquorums.seats.seats import MAX_ORDER, are_any_places, check_order

MAX_STATES = 26
MAX_ROUND = 4096

_MAX_BELOW = 1000
_LETTERS = "abcdefghijklmnopqrstuvwxyz"
_WORDS = {"in": True, "out": False}

# What stands for the first two lines where each line of a state has its letter.
_WIDTH = "width"
_FIRST = "first"


def _are_states(width, states):
    """Whether there are camps of this width with these states."""
    if not isinstance(states, dict) or not 1 <= len(states) <= MAX_STATES:
        return False
    for state, entry in states.items():
        if not is_letter(state) or not isinstance(entry, tuple) or len(entry) != 2:
            return False
        is_in, row = entry
        if not isinstance(is_in, bool) or not is_row(row) or len(row) != width:
            return False
    return all([other in states for _, row in states.values() for other in row])


def _state_line(state, entry):
    is_in, row = entry
    return f"state {state} {'in' if is_in else 'out'} of {' '.join(row)}"


def _entry_in(line):
    """What a line stands for: a pair of a state and its entry, or of a word and what follows it."""
    width = width_in(line)
    if width is not None:
        return (_WIDTH, width)
    if not isinstance(line, str):
        return None
    words = line.split(" ")
    if len(words) < 2 or not is_letter(words[1]):
        return None
    if words[0] == "first":
        return (_FIRST, words[1]) if len(words) == 2 else None
    row = tuple(words[4:])
    if words[0] != "state" or words[3:4] != ["of"] or words[2] not in _WORDS or not is_row(row):
        return None
    return (words[1], (_WORDS[words[2]], row))


def _is_any_seat(width, value):
    """Whether the value is a seat of an order up to the greatest one."""
    return are_any_places(width, value) and len(value) <= MAX_ORDER


def _state_behind(states, first, seat):
    """The state that the places of a seat lead to."""
    state = first
    for place in seat:
        state = states[state][1][place]
    return state


def _sizes(states, order):
    """For each order up to this one, a dict from the states to how many seats the camp in it has."""
    sizes = [{state: 1 if states[state][0] else 0 for state in states}]
    for _ in range(order):
        below = sizes[-1]
        sizes.append({state: sum([below[other] for other in states[state][1]]) for state in states})
    return sizes


def _pairs_from(start, rows, others):
    """All pairs that are reached from a pair by going to the same place in both rows, the start first."""
    found = [start]
    known = {start: True}
    at = 0
    while at < len(found):
        one, other = found[at]
        for pair in zip(rows[one], others[other]):
            if pair not in known:
                known[pair] = True
                found.append(pair)
        at += 1
    return found


def _state_pairs(one, other):
    """The pairs of states of two camps that are reached from both first ones together."""
    rows = {state: entry[1] for state, entry in one.states.items()}
    others = {state: entry[1] for state, entry in other.states.items()}
    return _pairs_from((one.first, other.first), rows, others)


def _crossed(one, other, is_common):
    """The camp with the seats that are in both camps, or in at least one."""
    if not isinstance(other, Camp) or other.width != one.width:
        raise InvalidOperation("no camp of the same width")
    pairs = _state_pairs(one, other)
    if len(pairs) > MAX_STATES:
        raise TooMany(MAX_STATES)
    names = {pair: _LETTERS[at] for at, pair in enumerate(pairs)}
    firsts = one.states
    seconds = other.states
    states = {}
    for first, second in pairs:
        is_in, row = firsts[first]
        is_other_in, other_row = seconds[second]
        is_held = is_in and is_other_in if is_common else is_in or is_other_in
        states[names[(first, second)]] = (is_held, tuple([names[pair] for pair in zip(row, other_row)]))
    return Camp(one.width, names[pairs[0]], states)


class Camp:
    """A set of seats of every order: those whose places lead from the first state to one that is in."""

    def __init__(self, width, first, states):
        check_width(width)
        if not _are_states(width, states) or not is_letter(first) or first not in states:
            raise InvalidCamp("no states of a camp of this width")
        self._width = width
        self._first = first
        self._states = {state: states[state] for state in sorted(states)}
        lines = [_state_line(state, self._states[state]) for state in self._states]
        self._lines = tuple([width_line(width), f"first {first}"] + lines)

    @classmethod
    def from_lines(cls, *lines):
        """The camp with these lines, in any order."""
        entries = entries_of(lines, _entry_in)
        if _WIDTH not in entries or _FIRST not in entries:
            raise InvalidCamp("no line of the width or of the first state")
        states = {state: entries[state] for state in entries if state not in (_WIDTH, _FIRST)}
        return cls(entries[_WIDTH], entries[_FIRST], states)

    @classmethod
    def all_seats(cls, width):
        """A camp with all seats."""
        check_width(width)
        return cls(width, "a", {"a": (True, ("a",) * width)})

    @property
    def width(self):
        """How many places each row has."""
        return self._width

    @property
    def first(self):
        """The first state."""
        return self._first

    @property
    def states(self):
        """A dict from the states to pairs: whether it is in, and its row."""
        return dict(self._states)

    @property
    def lines(self):
        """The lines of the width, of the first state and of the states."""
        return self._lines

    def part(self, place):
        """The camp in the state of this place of the first state."""
        if not is_count(place) or place >= self._width:
            raise InvalidNumber(place)
        return Camp(self._width, self._states[self._first][1][place], self._states)

    def rest(self):
        """The camp with all other seats."""
        return Camp(self._width, self._first, {state: (not is_in, row) for state, (is_in, row) in self._states.items()})

    def common(self, other):
        """A camp with the seats that are in both."""
        return _crossed(self, other, True)

    def merged(self, other):
        """A camp with the seats that are in at least one."""
        return _crossed(self, other, False)

    def has(self, seat):
        """Whether the camp has a seat."""
        if not _is_any_seat(self._width, seat):
            raise InvalidSeat("no seat of this width")
        return seat in self

    def size(self, order):
        """How many seats the camp has at an order."""
        check_order(order)
        return _sizes(self._states, order)[order][self._first]

    def seat_at(self, order, index):
        """The seat of the order that has so many seats of the camp ahead of it, and is in it."""
        check_order(order)
        sizes = _sizes(self._states, order)
        if not is_count(index) or index >= sizes[order][self._first]:
            raise InvalidNumber(index)
        state = self._first
        left = index
        seat = []
        for below in sizes[:order][::-1]:
            row = self._states[state][1]
            place = 0
            while left >= below[row[place]]:
                left = left - below[row[place]]
                place += 1
            seat.append(place)
            state = row[place]
        return tuple(seat)

    def ahead_of(self, seat):
        """How many seats of the camp, of the order of the seat, are less than it."""
        if not _is_any_seat(self._width, seat):
            raise InvalidSeat("no seat of this width")
        sizes = _sizes(self._states, len(seat))
        state = self._first
        many = 0
        for place, below in zip(seat, sizes[:len(seat)][::-1]):
            row = self._states[state][1]
            many = many + sum([below[other] for other in row[:place]])
            state = row[place]
        return many

    def is_same(self, value):
        """Whether the value is a camp of this width with the same seats at all orders."""
        if not isinstance(value, Camp) or value.width != self._width:
            return False
        others = value.states
        return all([self._states[one][0] == others[other][0] for one, other in _state_pairs(self, value)])

    def __contains__(self, value):
        return _is_any_seat(self._width, value) and self._states[_state_behind(self._states, self._first, value)][0]

    def __len__(self):
        return len(self._states)

    def __eq__(self, other):
        return isinstance(other, Camp) and self._lines == other._lines

    def __str__(self):
        return f"camp of width {self._width}, {len(self._states)} states"


def check_camp(book, camp):
    """Refuse what is no camp of the width of the book."""
    if not isinstance(camp, Camp) or camp.width != book.width:
        raise InvalidCamp("no camp of the width of the book")


def _check(book, kind, camp):
    check_book(book)
    check_kind(book, kind)
    check_camp(book, camp)


def _first_bits(states, pairs):
    """The bits of the pairs whose states are in."""
    bits = 0
    for at, (state, _) in enumerate(pairs):
        if states[state][0]:
            bits = bits | 1 << at
    return bits


def _masks(book, states, pairs):
    """For each pair of a state and a kind, the bits of the pairs at the places of each least set of the kind."""
    bits = {pair: 1 << at for at, pair in enumerate(pairs)}
    masks = []
    for state, kind in pairs:
        rule = book[kind]
        lower = [bits[pair] for pair in zip(states[state][1], rule.row)]
        found = []
        for least in rule.family:
            mask = 0
            for place in least:
                mask = mask | lower[place]
            found.append(mask)
        masks.append((bits[(state, kind)], found))
    return masks


def _bits_above(masks, bits):
    """The bits of the pairs that hold at the next order, by those that hold at this one."""
    above = 0
    for bit, found in masks:
        for mask in found:
            if bits & mask == mask:
                above = above | bit
                break
    return above


def _run(book, kind, camp, last):
    """What is held at the orders up to the last one, or up to the first one after which all comes again.

    The first bit tells of the first state and the kind. The second result is the order with which it comes
    again, None if it does not up to the last order.
    """
    states = camp.states
    rows = {state: entry[1] for state, entry in states.items()}
    pairs = _pairs_from((camp.first, kind), rows, {other: book[other].row for other in book.kinds})
    masks = _masks(book, states, pairs)
    bits = _first_bits(states, pairs)
    history = [bits]
    known = {bits: 0}
    while len(history) <= last:
        bits = _bits_above(masks, bits)
        if bits in known:
            return (history, known[bits])
        known[bits] = len(history)
        history.append(bits)
    return (history, None)


def _is_held(history, again, order):
    if order >= len(history):
        return _is_held(history, again, again + (order - again) % (len(history) - again))
    return history[order] & 1 == 1


def holds_at(book, kind, camp, order):
    """Whether the camp holds a kind at an order."""
    _check(book, kind, camp)
    if not is_count(order):
        raise InvalidNumber(order)
    history, again = _run(book, kind, camp, min(order, MAX_ROUND))
    if again is None and order > MAX_ROUND:
        raise TooMany(MAX_ROUND)
    return _is_held(history, again, order)


def _least_period(cycle):
    period = 1
    while cycle[period:] + cycle[:period] != cycle:
        period += 1
    return period


def pattern_of(book, kind, camp):
    """At which orders the camp holds a kind: the triple of the turn, the period, and the orders below both."""
    _check(book, kind, camp)
    history, again = _run(book, kind, camp, MAX_ROUND)
    if again is None:
        raise TooMany(MAX_ROUND)
    held = [bits & 1 == 1 for bits in history]
    period = _least_period(held[again:])
    turn = again
    while turn > 0 and held[turn - 1] == held[turn - 1 + period]:
        turn -= 1
    return (turn, period, tuple([order for order in range(turn + period) if held[order]]))


def holding_orders(book, kind, camp, below):
    """The orders below this one at which the camp holds a kind."""
    _check(book, kind, camp)
    if not is_count(below) or below > _MAX_BELOW:
        raise InvalidNumber(below)
    history, again = _run(book, kind, camp, below)
    return tuple([order for order in range(below) if _is_held(history, again, order)])
