"""Whether each quorum of one kind is a quorum of another one."""

from grownquorums.base.sets import ascends, is_set
from grownquorums.base.words import is_count
from grownquorums.books.books import check_book, check_kind
from grownquorums.books.tables import bits_of, held_table
from grownquorums.errors import InvalidBook, InvalidNumber, TooMany
from grownquorums.seats.camps import Camp

MAX_FALLS = 24

_WITHIN = "within"
_APART = "apart"

# The states of a parting camp: one for each of its pairs of kinds, and two that have all seats and none.
_PAIR_STATES = "abcdefghijklmnopqrstuvwx"
_FULL = "y"
_EMPTY = "z"


def check_books(one, other):
    """Refuse what is no book, and books of another width."""
    check_book(one)
    check_book(other)
    if other.width != one.width:
        raise InvalidBook("a book of another width")


def check_kinds(one, other, a, b):
    """Refuse wrong books, and what is no kind of the one and no kind of the other."""
    check_books(one, other)
    check_kind(one, a)
    check_kind(other, b)


def _every_pair(one, other):
    return [(a, b) for a in one.kinds for b in other.kinds]


def _lowers(one, other, pair):
    """The pairs of kinds at all places of a pair."""
    return list(zip(one[pair[0]].row, other[pair[1]].row))


def _lowers_from(one, other, pairs):
    """A dict from these pairs, and all below them at used places, to the pairs at their places."""
    found = {}
    left = list(pairs)
    while left:
        pair = left.pop()
        if pair not in found:
            found[pair] = _lowers(one, other, pair)
            left = left + [found[pair][place] for place in one[pair[0]].used]
    return found


def _is_falling(lowers, sets, table, falls):
    """Whether some of the least sets, as bits, holds no more, if the pairs that fall are left out."""
    kept = bits_of([place for place, lower in enumerate(lowers) if lower not in falls])
    return not all([table[least & kept] for least in sets])


def falls_from(one, other, pairs):
    """A dict from those of the pairs, and those below them, that are not within to the least orders of failing."""
    lowers = _lowers_from(one, other, pairs)
    sets = {kind: [bits_of(least) for least in one[kind].family] for kind in one.kinds}
    tables = {kind: held_table(other[kind]) for kind in other.kinds}
    falls = {}
    order = 0
    fresh = list(lowers)
    while fresh:
        order += 1
        fresh = [
            pair for pair in lowers
            if pair not in falls and _is_falling(lowers[pair], sets[pair[0]], tables[pair[1]], falls)
        ]
        for pair in fresh:
            falls[pair] = order
    return falls


def fall_of(one, other, a, b):
    """The least order at which a is not within b, None if there is none."""
    check_kinds(one, other, a, b)
    return falls_from(one, other, [(a, b)]).get((a, b))


def is_within(one, other, a, b):
    """Whether a is within b at all orders."""
    return fall_of(one, other, a, b) is None


def is_within_at(one, other, a, b, order):
    """Whether a is within b at an order."""
    check_kinds(one, other, a, b)
    if not is_count(order):
        raise InvalidNumber(order)
    fall = fall_of(one, other, a, b)
    return fall is None or order < fall


class Inclusion:
    """All pairs of a kind of one book and a kind of another, and up to which orders they are within."""

    def __init__(self, one, other):
        check_books(one, other)
        every = _every_pair(one, other)
        falls = falls_from(one, other, every)
        self._one = one
        self._other = other
        self._pairs = tuple([pair for pair in every if pair not in falls])
        self._falls = {pair: falls[pair] for pair in every if pair in falls}

    @property
    def one(self):
        """The book of the first kinds."""
        return self._one

    @property
    def other(self):
        """The book of the second kinds."""
        return self._other

    @property
    def pairs(self):
        """The pairs that are within at all orders, ascending."""
        return self._pairs

    @property
    def falls(self):
        """A dict from the other pairs to the least orders at which they are not within."""
        return {pair: self._falls[pair] for pair in self._falls}

    @property
    def rounds(self):
        """The least order from which on nothing more falls."""
        return max(list(self._falls.values()), default=0)

    def held_at(self, order):
        """The pairs that are within at an order, ascending."""
        if not is_count(order):
            raise InvalidNumber(order)
        late = [pair for pair in self._falls if order < self._falls[pair]]
        return tuple(sorted(list(self._pairs) + late))

    def __contains__(self, value):
        return value in self._pairs

    def __len__(self):
        return len(self._pairs)

    def __iter__(self):
        return iter(self._pairs)

    def __eq__(self, other):
        return isinstance(other, Inclusion) and self._one == other._one and self._other == other._other

    def __str__(self):
        return f"{len(self._pairs)} of {len(self._pairs) + len(self._falls)} pairs within"


def _kept_places(lowers, orders, order):
    """The places, as bits, at which there is no lesser order for the pair of kinds."""
    return bits_of([place for place, lower in enumerate(lowers) if orders.get(lower, order) >= order])


def _parting_set(one, other, falls, pair):
    """A least set of the first kind that, but for the pairs that fall at lesser orders, holds the second no more."""
    table = held_table(other[pair[1]])
    kept = _kept_places(_lowers(one, other, pair), falls, falls[pair])
    return [least for least in one[pair[0]].family if not table[bits_of(least) & kept]][0]


def _parting_sets(one, other, falls, start):
    """A dict from this pair, and those below that it falls by, to least sets of their first kinds."""
    found = {}
    left = [start]
    while left:
        pair = left.pop()
        if pair not in found:
            found[pair] = _parting_set(one, other, falls, pair)
            lowers = _lowers(one, other, pair)
            below = [lowers[place] for place in found[pair]]
            left = left + [lower for lower in below if falls.get(lower, falls[pair]) < falls[pair]]
    return found


def within_paper(one, other, a, b):
    """A paper by which a is within b at all orders, or one by which it is not from the least order on."""
    check_kinds(one, other, a, b)
    pair = (a, b)
    falls = falls_from(one, other, [pair])
    if pair not in falls:
        return (_WITHIN, tuple([lower for lower in sorted(_lowers_from(one, other, [pair])) if lower not in falls]))
    sets = _parting_sets(one, other, falls, pair)
    return (_APART, tuple(sorted([(falls[lower], *lower, sets[lower]) for lower in sets])))


def _is_pair(one, other, value):
    return isinstance(value, tuple) and len(value) == 2 and value[0] in one.kinds and value[1] in other.kinds


def _is_closed(one, other, pair, value):
    """Whether the value is an ascending tuple of pairs, with this one, that is within by itself."""
    if not isinstance(value, tuple) or not all([_is_pair(one, other, entry) for entry in value]):
        return False
    if pair not in value or not ascends(value):
        return False
    for entry in value:
        lowers = _lowers(one, other, entry)
        kept = bits_of([place for place, lower in enumerate(lowers) if lower in value])
        table = held_table(other[entry[1]])
        if not all([table[bits_of(least) & kept] for least in one[entry[0]].family]):
            return False
    return True


def _is_row(one, other, value):
    if not isinstance(value, tuple) or len(value) != 4 or not is_count(value[0]) or value[0] == 0:
        return False
    if not _is_pair(one, other, value[1:3]) or not is_set(one.width, value[3]):
        return False
    return value[3] in one[value[1]].family


def _is_parting(one, other, pair, value):
    """Whether the value is an ascending tuple of rows, one of this pair, that tells by itself that it falls."""
    if not isinstance(value, tuple) or not all([_is_row(one, other, row) for row in value]):
        return False
    orders = {(a, b): order for order, a, b, _ in value}
    if pair not in orders or len(orders) != len(value) or not ascends(value):
        return False
    for order, a, b, least in value:
        kept = _kept_places(_lowers(one, other, (a, b)), orders, order)
        if held_table(other[b])[bits_of(least) & kept]:
            return False
    return True


def is_within_paper(one, other, a, b, value):
    """Whether the value is a paper by which a is within b, or by which it is not."""
    check_kinds(one, other, a, b)
    if not isinstance(value, tuple) or len(value) != 2:
        return False
    word, rows = value
    if word == _WITHIN:
        return _is_closed(one, other, (a, b), rows)
    return word == _APART and _is_parting(one, other, (a, b), rows)


def _parting_row(least, lowers, names):
    """The states at all places: those of the named pairs, and all seats at the other places of the least set."""
    return tuple([names.get(lower, _FULL) if place in least else _EMPTY for place, lower in enumerate(lowers)])


def parting_camp(one, other, a, b):
    """A camp that holds a and not b from the least order on at which a is not within b, None if there is none."""
    check_kinds(one, other, a, b)
    falls = falls_from(one, other, _every_pair(one, other))
    if (a, b) not in falls:
        return None
    if len(falls) > MAX_FALLS:
        raise TooMany(MAX_FALLS)
    sets = _parting_sets(one, other, falls, (a, b))
    names = {pair: _PAIR_STATES[at] for at, pair in enumerate(sets)}
    states = {_FULL: (True, (_FULL,) * one.width), _EMPTY: (False, (_EMPTY,) * one.width)}
    for pair in sets:
        # Only what falls sooner has long fallen where this pair falls.
        sooner = {lower: names[lower] for lower in names if falls[lower] < falls[pair]}
        states[names[pair]] = (False, _parting_row(sets[pair], _lowers(one, other, pair), sooner))
    return Camp(one.width, names[(a, b)], states)
