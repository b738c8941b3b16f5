"""Sizes and numbers of least quorums, and choices that name some of them."""

from grownquorums.base.powers import power
from grownquorums.base.words import is_count
from grownquorums.books.books import check_book
from grownquorums.errors import InvalidNumber, InvalidOperation, InvalidSeat, TooMany
from grownquorums.seats.seats import check_few_seats, check_order, is_seat, split_crowd
from grownquorums.seats.systems import check_asked, is_least_quorum, product_at

MAX_DIGITS = 400

# The least integer with more than MAX_DIGITS digits.
_OUT_OF_REACH = (10 ** 50) ** 8


def _sum_at(rule, below, places):
    """The sum of what the kinds of the places have."""
    return sum([below[rule.row[place]] for place in places])


def _least_sizes(book, order):
    """For each order up to this one, a dict from the kinds to the least size of a quorum."""
    sizes = [{kind: 1 for kind in book.kinds}]
    for _ in range(order):
        below = sizes[-1]
        sizes.append({kind: min([_sum_at(book[kind], below, least) for least in book[kind]]) for kind in book.kinds})
    return sizes


def least_size(book, kind, order):
    """The least size of a least quorum of a kind."""
    check_asked(book, kind, order)
    return _least_sizes(book, order)[order][kind]


def greatest_size(book, kind, order):
    """The greatest size of a least quorum of a kind."""
    check_asked(book, kind, order)
    sizes = {other: 1 for other in book.kinds}
    for _ in range(order):
        sizes = {other: max([_sum_at(book[other], sizes, least) for least in book[other]]) for other in book.kinds}
    return sizes[kind]


def fewest_failures(book, kind, order):
    """The least size of a block of a kind."""
    check_asked(book, kind, order)
    return _least_sizes(book.dual(), order)[order][kind]


def _counts(book, order, most):
    """A dict from the kinds to how many least quorums they have, numbers above the greatest one cut down to it."""
    counts = {kind: 1 for kind in book.kinds}
    for _ in range(order):
        # What is cut down stays as great, as no number that it is multiplied with is below 1.
        counts = {
            kind: min(most, sum([product_at(book[kind], counts, least) for least in book[kind]]))
            for kind in book.kinds
        }
    return counts


def count_least(book, kind, order):
    """How many least quorums a kind has."""
    check_asked(book, kind, order)
    many = _counts(book.part(kind), order, _OUT_OF_REACH)[kind]
    if many >= _OUT_OF_REACH:
        raise TooMany(MAX_DIGITS)
    return many


def _digits(number, bits, many):
    """So many digits of the number, each with so many bits, the lowest one first."""
    if many == 1:
        return [number]
    half = many // 2
    high = number >> bits * half
    low = number - (high << bits * half)
    return _digits(low, bits, half) + _digits(high, bits, many - half)


def count_sizes(book, kind, order):
    """A dict from the sizes of the least quorums of a kind to how many have each."""
    check_asked(book, kind, order)
    check_few_seats(book.width, order)
    part = book.part(kind)
    seats = power(book.width, order)
    # There are fewer least quorums than sets of seats.
    many = _counts(part, order, 1 << seats)[kind]
    # A number whose digit with the index n tells how many quorums have the size n: sums
    # and products of such numbers are those of the quorums.
    bits = many.bit_length()
    packed = {other: 1 << bits for other in part.kinds}
    for _ in range(order):
        packed = {
            other: sum([product_at(part[other], packed, least) for least in part[other]]) for other in part.kinds
        }
    digits = _digits(packed[kind], bits, seats + 1)
    return {size: digit for size, digit in enumerate(digits) if digit > 0}


def _are_least_sets(family, values):
    """Whether all of the values are sets of the family."""
    if not all([value in family for value in values]):
        return False
    # What is equal to a tuple of places can still have True and False in it.
    return not [place for value in values for place in value if place is True or place is False]


def _are_all_picks(book, order, value):
    """Whether the value is a tuple of so many dicts, each from all kinds of the book to one of their least sets."""
    if not isinstance(value, tuple) or len(value) != order:
        return False
    many = len(book)
    if not all([isinstance(picks, dict) and len(picks) == many for picks in value]):
        return False
    # All picks of one kind are judged at once, as there may be hundreds of them.
    return all([_are_least_sets(book[kind].family, [picks.get(kind) for picks in value]) for kind in book.kinds])


def is_choice(book, order, value):
    """Whether the value is a choice of this order."""
    check_book(book)
    check_order(order)
    return _are_all_picks(book, order, value)


def _lightest(rule, below):
    """A least set of the rule for which the sum of the sizes is least."""
    return min([(_sum_at(rule, below, least), least) for least in rule])[1]


def light_choice(book, order):
    """A choice by which the quorum of each kind at each order is as small as possible."""
    check_book(book)
    check_order(order)
    sizes = _least_sizes(book, order)
    return tuple([{kind: _lightest(book[kind], below) for kind in book.kinds} for below in sizes[:order]])


def _check_choice(book, kind, order, choice):
    check_asked(book, kind, order)
    if not _are_all_picks(book, order, choice):
        raise InvalidOperation("no choice of this order")


def _check_seat(book, order, seat):
    if not is_seat(book.width, order, seat):
        raise InvalidSeat("no seat of this order")


def _rows_of(book, kind):
    """A dict from the kinds on which this one depends to their rows."""
    return {other: book[other].row for other in book.needed(kind)}


def _chosen_sizes(rows, choice):
    """For each order up to that of the choice, a dict from the kinds of the rows to the sizes of the named quorums."""
    below = {kind: 1 for kind in rows}
    sizes = [below]
    for picks in choice:
        above = {}
        for kind, row in rows.items():
            size = 0
            for place in picks[kind]:
                size = size + below[row[place]]
            above[kind] = size
        sizes.append(above)
        below = above
    return sizes


def chosen_size(book, kind, order, choice):
    """The size of the quorum of a kind that a choice names."""
    _check_choice(book, kind, order, choice)
    return _chosen_sizes(_rows_of(book, kind), choice)[order][kind]


def is_chosen(book, kind, order, choice, seat):
    """Whether a seat is in the quorum of a kind that a choice names."""
    _check_choice(book, kind, order, choice)
    _check_seat(book, order, seat)
    rows = _rows_of(book, kind)
    for picks, place in zip(choice[::-1], seat):
        if place not in picks[kind]:
            return False
        kind = rows[kind][place]
    return True


def chosen_seat(book, kind, order, choice, index):
    """The seat with an index among the seats of the quorum that a choice names."""
    _check_choice(book, kind, order, choice)
    rows = _rows_of(book, kind)
    sizes = _chosen_sizes(rows, choice)
    if not is_count(index) or index >= sizes[order][kind]:
        raise InvalidNumber(index)
    seat = []
    left = index
    for picks, below in zip(choice[::-1], sizes[:order][::-1]):
        row = rows[kind]
        places = picks[kind]
        at = 0
        while left >= below[row[places[at]]]:
            left = left - below[row[places[at]]]
            at += 1
        seat.append(places[at])
        kind = row[places[at]]
    return tuple(seat)


def chosen_index(book, kind, order, choice, seat):
    """The index of a seat among the seats of the quorum that a choice names."""
    _check_choice(book, kind, order, choice)
    _check_seat(book, order, seat)
    rows = _rows_of(book, kind)
    index = 0
    for picks, below, place in zip(choice[::-1], _chosen_sizes(rows, choice)[:order][::-1], seat):
        if place not in picks[kind]:
            raise InvalidSeat("the seat is not in the quorum")
        row = rows[kind]
        for other in picks[kind]:
            if other < place:
                index = index + below[row[other]]
        kind = row[place]
    return index


def _picks_of(book, quorums):
    """The picks that the quorums of one order ask for, a dict from kinds, with any others for the other kinds."""
    picks = {}
    for kind in book.kinds:
        picks[kind] = book[kind].family[0]
        if kind in quorums:
            picks[kind] = tuple([place for place, part in enumerate(quorums[kind]) if part != ()])
    return picks


def choice_of(book, kind, order, quorum):
    """A choice that names this least quorum, None if none does."""
    if not is_least_quorum(book, kind, order, quorum):
        raise InvalidOperation("no least quorum of the kind")
    named = {kind: quorum}
    choice = []
    for below in reversed(range(order)):
        size = power(book.width, below)
        parts = {one: split_crowd(book.width, size, named[one]) for one in named}
        choice.append(_picks_of(book, parts))
        named = {}
        for other in parts:
            for made, part in zip(book[other].row, parts[other]):
                if part != () and named.setdefault(made, part) != part:
                    return None
    return tuple(choice[::-1])
