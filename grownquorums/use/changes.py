"""Changed books: with other places, other names, two orders in one, or fewer kinds."""

from grownquorums.base.sets import are_turns
from grownquorums.base.words import is_letter
from grownquorums.books.books import Book, check_book
from grownquorums.books.rules import MAX_WIDTH, MIN_WIDTH, Rule
from grownquorums.decide.duals import classes_of
from grownquorums.errors import InvalidOperation, InvalidSeat
from grownquorums.seats.seats import MAX_ORDER, are_any_places

_HALF_WIDTH = 2


def permuted_book(book, places):
    """The book in which each place j has become places[j]."""
    check_book(book)
    if not are_turns(book.width, places):
        raise InvalidOperation("no tuple with each place once")
    return Book(book.width, {kind: book[kind].permuted(places) for kind in book.kinds})


def permuted_seat(seat, places):
    """The seat in which each place j has become places[j]."""
    if not are_any_places(MAX_WIDTH, seat) or len(seat) > MAX_ORDER:
        raise InvalidSeat("no seat of any width")
    if not any([are_turns(width, places) for width in range(MIN_WIDTH, MAX_WIDTH + 1)]):
        raise InvalidOperation("no tuple with each place of some width once")
    if not are_any_places(len(places), seat):
        raise InvalidSeat("the seat has another place")
    return tuple([places[place] for place in seat])


def _are_names(book, value):
    """Whether the value is a dict from just the kinds of the book to different letters."""
    if not isinstance(value, dict) or len(value) != len(book):
        return False
    names = [value.get(kind) for kind in book.kinds]
    return all([is_letter(name) for name in names]) and len(set(names)) == len(names)


def renamed_book(book, names):
    """The book with other names of its kinds."""
    check_book(book)
    if not _are_names(book, names):
        raise InvalidOperation("no dict from just the kinds of the book to different letters")
    return Book(book.width, {
        names[kind]: Rule(tuple([names[made] for made in book[kind].row]), book[kind].family) for kind in book.kinds
    })


def _doubled_sets(book, rule, least):
    """All unions of least sets at the places of a least set, each place of two orders counted as one."""
    unions = [()]
    for place in least:
        lower = book[rule.row[place]].family
        unions = [
            (*union, *[_HALF_WIDTH * place + other for other in below]) for union in unions for below in lower
        ]
    return unions


def _doubled_rule(book, rule):
    row = tuple([made for kind in rule.row for made in book[kind].row])
    return Rule(row, tuple(sorted([union for least in rule.family for union in _doubled_sets(book, rule, least)])))


def doubled_book(book):
    """The book of width 4 in which one order stands for two of a book of width 2."""
    check_book(book)
    if book.width != _HALF_WIDTH:
        raise InvalidOperation("no book of width 2")
    return Book(_HALF_WIDTH * _HALF_WIDTH, {kind: _doubled_rule(book, book[kind]) for kind in book.kinds})


def least_book(book):
    """The book with the least one of the kinds that are alike in the place of all of them."""
    check_book(book)
    classes = classes_of(book)
    heads = {kind: alike[0] for alike in classes for kind in alike}
    # What stands at a place that is not used does not matter.
    rules = {}
    for alike in classes:
        rule = book[alike[0]]
        row = [heads[kind] if place in rule.used else book.kinds[0] for place, kind in enumerate(rule.row)]
        rules[alike[0]] = Rule(tuple(row), rule.family)
    return Book(book.width, rules)
