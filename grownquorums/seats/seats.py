"""Seats, and crowds: sets of seats of one order."""

from grownquorums.base.powers import power
from grownquorums.base.sets import check_width
from grownquorums.base.words import is_count
from grownquorums.errors import InvalidNumber, InvalidOperation, InvalidSeat, ParseError, TooMany

MAX_ORDER = 200
MAX_SEATS = 4096

_FIGURES = "01234"
_NO_PLACES = "-"


def check_order(order):
    """Refuse what is no order from 0 to 200."""
    if not is_count(order) or order > MAX_ORDER:
        raise InvalidNumber(order)


def check_few_seats(width, order):
    """Refuse an order with more seats than crowds can have."""
    if power(width, order) > MAX_SEATS:
        raise TooMany(MAX_SEATS)


def _check(width, order):
    check_width(width)
    check_order(order)


def are_any_places(width, value):
    """Whether the value is a tuple of places, in any order and repeats let."""
    if not isinstance(value, tuple):
        return False
    places = tuple(range(width))
    return all([place in places and place is not True and place is not False for place in value])


def are_numbers(value, below):
    """Whether the value is an ascending tuple of numbers below this one."""
    if not isinstance(value, tuple):
        return False
    last = -1
    for number in value:
        if not is_count(number) or not last < number < below:
            return False
        last = number
    return True


def digits_number(width, places):
    """The number with these places as digits, the first one the highest."""
    number = 0
    for place in places:
        number = number * width + place
    return number


def is_seat(width, order, value):
    """Whether the value is a seat of this width and order."""
    _check(width, order)
    return are_any_places(width, value) and len(value) == order


def number_of(width, order, seat):
    """The number of a seat."""
    if not is_seat(width, order, seat):
        raise InvalidSeat("no seat of this width and order")
    return digits_number(width, seat)


def seat_at(width, order, number):
    """The seat with a number."""
    _check(width, order)
    if not is_count(number) or number >= power(width, order):
        raise InvalidNumber(number)
    places = []
    left = number
    for _ in range(order):
        left, place = divmod(left, width)
        places.append(place)
    return tuple(places[::-1])


def write_seat(width, order, seat):
    """The text of a seat, like 012."""
    if not is_seat(width, order, seat):
        raise InvalidSeat("no seat of this width and order")
    return "".join([str(place) for place in seat]) if seat else _NO_PLACES


def read_seat(width, order, text):
    """The seat with a text."""
    _check(width, order)
    if not isinstance(text, str):
        raise ParseError(None)
    signs = "" if text == _NO_PLACES else text
    # A sign that is no figure becomes -1, which is no place.
    seat = tuple([_FIGURES.find(sign) for sign in signs])
    if text == "" or not is_seat(width, order, seat):
        raise ParseError(None)
    return seat


def under(width, order, head):
    """The least number of a seat that begins with the places of the head, and how many there are."""
    _check(width, order)
    if not are_any_places(width, head) or len(head) > order:
        raise InvalidSeat("no beginning of a seat of this width and order")
    many = power(width, order - len(head))
    return (digits_number(width, head) * many, many)


def is_crowd(width, order, value):
    """Whether the value is a crowd of this order."""
    _check(width, order)
    check_few_seats(width, order)
    return are_numbers(value, power(width, order))


def check_crowd(width, order, crowd):
    """Refuse an order with too many seats, and what is no crowd of the order."""
    if not is_crowd(width, order, crowd):
        raise InvalidOperation("no crowd of this order")


def split_crowd(width, size, crowd):
    """The parts of a crowd at all places, each of which has so many seats."""
    parts = [[] for _ in range(width)]
    for number in crowd:
        parts[number // size].append(number - number // size * size)
    return tuple([tuple(part) for part in parts])


def parts_of(width, order, crowd):
    """The parts of a crowd at all places."""
    check_crowd(width, order, crowd)
    if order == 0:
        raise InvalidOperation("a crowd of the order 0 has no parts")
    return split_crowd(width, power(width, order - 1), crowd)


def crowd_of(width, order, parts):
    """The crowd with these parts."""
    _check(width, order)
    check_few_seats(width, order)
    if order == 0 or not isinstance(parts, tuple) or len(parts) != width:
        raise InvalidOperation("no parts of a crowd of this order")
    size = power(width, order - 1)
    if not all([are_numbers(part, size) for part in parts]):
        raise InvalidOperation("no parts of a crowd of this order")
    return tuple([place * size + number for place, part in enumerate(parts) for number in part])


def others_of(width, order, crowd):
    """The crowd of all other seats."""
    check_crowd(width, order, crowd)
    taken = set(crowd)
    return tuple([number for number in range(power(width, order)) if number not in taken])


def each_crowd(width, order):
    """All crowds of the order, by their numbers in binary digits, with the seat 0 as the lowest one."""
    _check(width, order)
    check_few_seats(width, order)
    seats = power(width, order)
    crowd = ()
    yield crowd
    while len(crowd) < seats:
        # Counting up sets the lowest digit that is not set, and clears those below it.
        lowest = 0
        while lowest < len(crowd) and crowd[lowest] == lowest:
            lowest += 1
        crowd = (lowest, *crowd[lowest:])
        yield crowd
