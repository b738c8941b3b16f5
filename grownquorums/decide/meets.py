"""Whether quorums of two or three kinds always share a seat."""

from grownquorums.base.sets import ascends, is_set
from grownquorums.base.words import is_count
from grownquorums.books.books import check_book
from grownquorums.decide.ways import (
    cheapest_choice, costs_upto, falls_in, group_below, groups_below, groups_of, named_quorums, ways_from,
)
from grownquorums.errors import InvalidNumber, InvalidOperation
from grownquorums.seats.seats import MAX_ORDER, check_few_seats, check_order, is_crowd
from grownquorums.seats.systems import crowd_holds

MAX_SEATS = 4096

_MEET = "meet"
_SPLIT = "split"


def _is_group(book, value):
    if not isinstance(value, tuple) or len(value) not in (2, 3):
        return False
    if not all([kind in book.kinds for kind in value]):
        return False
    return all([one <= other for one, other in zip(value, value[1:])])


def check_group(book, group):
    """Refuse what is no book, and what is no group of its kinds."""
    check_book(book)
    if not _is_group(book, group):
        raise InvalidOperation("no group of kinds of the book")


def is_group(book, value):
    """Whether the value is a group of kinds of the book."""
    check_book(book)
    return _is_group(book, value)


def is_group_of(book, size, value):
    """Whether the value is a group of so many kinds of the book."""
    return _is_group(book, value) and len(value) == size


def are_sets_of(book, group, value):
    """Whether the value is a tuple of a least set for each kind of the group, in its order."""
    if not isinstance(value, tuple) or len(value) != len(group):
        return False
    return all([
        is_set(book.width, least) and least in book[kind].family for kind, least in zip(group, value)
    ])


def lower_group(book, group, place):
    """The group below at a place."""
    check_group(book, group)
    if not is_count(place) or place >= book.width:
        raise InvalidNumber(place)
    return group_below(book, group, place)


def falling_order(book, group):
    """The least order at which a group does not meet, None if it meets at all orders."""
    check_group(book, group)
    return falls_in(ways_from(book, [group])).get(group)


def meets(book, group):
    """Whether a group meets at all orders."""
    return falling_order(book, group) is None


def meets_at(book, group, order):
    """Whether a group meets at an order."""
    check_group(book, group)
    if not is_count(order):
        raise InvalidNumber(order)
    fall = falling_order(book, group)
    return fall is None or order < fall


class Meetings:
    """All groups of so many kinds of a book, and at which orders they meet."""

    def __init__(self, book, size):
        check_book(book)
        if size not in (2, 3):
            raise InvalidNumber(size)
        self._book = book
        self._arity = size
        self._groups = tuple(groups_of(book, size))
        falls = falls_in(ways_from(book, self._groups))
        self._closed = tuple([group for group in self._groups if group not in falls])
        self._falls = {group: falls[group] for group in self._groups if group in falls}

    @property
    def book(self):
        """The book."""
        return self._book

    @property
    def arity(self):
        """How many kinds each group has."""
        return self._arity

    @property
    def closed(self):
        """The groups that meet at all orders, ascending."""
        return self._closed

    @property
    def falls(self):
        """A dict from the other groups to the least orders at which they do not meet."""
        return {group: self._falls[group] for group in self._falls}

    def __contains__(self, value):
        return value in self._closed

    def __len__(self):
        return len(self._groups)

    def __iter__(self):
        return iter(self._groups)

    def __eq__(self, other):
        return isinstance(other, Meetings) and self._book == other._book and self._arity == other._arity

    def __str__(self):
        return f"meetings of {len(self._closed)} out of {len(self._groups)} groups"


def _falling_sets(ways, falls, group):
    """Least sets of the group's kinds that share only places of groups that do not meet at a lesser order."""
    last = falls[group]
    return [sets for sets, lowers in ways[group] if all([falls.get(lower, last) < last for lower in lowers])][0]


def _split_entries(book, ways, falls, group):
    """The triples of a paper that splits the group, those of the groups below included."""
    entries = {}
    left = [group]
    while left:
        one = left.pop()
        if one not in entries:
            sets = _falling_sets(ways, falls, one)
            entries[one] = (falls[one], one, sets)
            left = left + groups_below(book, one, sets)
    return tuple(sorted([entries[one] for one in entries]))


def meeting_paper(book, group):
    """A paper by which the group meets at all orders, or one by which it does not at the least order."""
    check_group(book, group)
    ways = ways_from(book, [group])
    falls = falls_in(ways)
    if group in falls:
        return (_SPLIT, _split_entries(book, ways, falls, group))
    return (_MEET, tuple([one for one in sorted(ways) if one not in falls]))


def _is_closed(book, group, value):
    """Whether the value is an ascending tuple of groups, with this one, that meets by itself."""
    if not isinstance(value, tuple) or group not in value:
        return False
    if not all([is_group_of(book, len(group), one) for one in value]) or not ascends(value):
        return False
    ways = ways_from(book, value)
    return all([any([lower in value for lower in lowers]) for one in value for _, lowers in ways[one]])


def _is_entry(book, size, value):
    if not isinstance(value, tuple) or len(value) != 3:
        return False
    order, group, sets = value
    if not is_count(order) or not 1 <= order <= MAX_ORDER:
        return False
    return is_group_of(book, size, group) and are_sets_of(book, group, sets)


def _is_splitting(book, group, value):
    """Whether the value is an ascending tuple of entries, one with this group, that splits by itself."""
    if not isinstance(value, tuple) or not all([_is_entry(book, len(group), entry) for entry in value]):
        return False
    if not ascends(value):
        return False
    orders = {}
    for order, one, _ in value:
        orders[one] = min(order, orders.get(one, order))
    for order, one, sets in value:
        if not all([orders.get(lower, order) < order for lower in groups_below(book, one, sets)]):
            return False
    return group in orders


def is_meeting_paper(book, group, value):
    """Whether the value is a meeting paper for the group."""
    check_group(book, group)
    if not isinstance(value, tuple) or len(value) != 2:
        return False
    word, rows = value
    if word == _MEET:
        return _is_closed(book, group, rows)
    return word == _SPLIT and _is_splitting(book, group, rows)


def _check_order(book, group, order):
    check_group(book, group)
    check_order(order)
    check_few_seats(book.width, order)


def split_at(book, group, order):
    """Least quorums of the kinds of a group that share no seat, None if the group meets at the order."""
    _check_order(book, group, order)
    ways = ways_from(book, [group])
    costs = costs_upto(ways, order)
    if costs[order][group] > 0:
        return None
    return named_quorums(book, group, order, cheapest_choice(ways, group, costs))


def is_split(book, group, order, value):
    """Whether the value is a tuple of quorums, one of each kind of the group, that share no seat."""
    _check_order(book, group, order)
    if not isinstance(value, tuple) or len(value) != len(group):
        return False
    if not all([is_crowd(book.width, order, crowd) for crowd in value]):
        return False
    if not all([crowd_holds(book, kind, order, crowd) for kind, crowd in zip(group, value)]):
        return False
    shared = value[0]
    for crowd in value[1:]:
        taken = {number: True for number in crowd}
        shared = [number for number in shared if number in taken]
    return len(shared) == 0
