"""Systems of low orders: which crowds hold which kinds."""

from grownquorums.base.powers import power
from grownquorums.base.sets import has_least
from grownquorums.books.books import check_book, check_kind
from grownquorums.errors import NoQuorum, TooMany
from grownquorums.seats.seats import are_numbers, check_crowd, check_few_seats, check_order, others_of, split_crowd

_MAX_SHARERS = 9
_HOLDS = "holds"
_LACKS = "lacks"

# Rows of quorums up to so many are kept while the quorums ahead of them change.
_FEW = 500


def check_asked(book, kind, order):
    """Refuse what is no book, no kind of it, or no order."""
    check_book(book)
    check_kind(book, kind)
    check_order(order)


def _places_held(rule, parts):
    """The places at which the parts, tuples of the kinds that they hold, hold the kind of the row."""
    return tuple([place for place, kind in enumerate(rule.row) if kind in parts[place]])


def _held_above(book, parts):
    """The kinds that are held one order above parts that hold these kinds."""
    rules = [(kind, book[kind]) for kind in book.kinds]
    return tuple([kind for kind, rule in rules if has_least(rule.family, _places_held(rule, parts))])


def _levels(book, order, crowd):
    """For each order up to this one, the kinds that the crowd holds in each row of seats behind one beginning."""
    level = [()] * power(book.width, order)
    for number in crowd:
        level[number] = book.kinds
    levels = [level]
    known = {}
    for _ in range(order):
        above = []
        for at in range(0, len(level), book.width):
            parts = tuple(level[at:at + book.width])
            if parts not in known:
                known[parts] = _held_above(book, parts)
            above.append(known[parts])
        level = above
        levels.append(level)
    return levels


def _parts_at(book, levels, order, index):
    return levels[order - 1][index * book.width:(index + 1) * book.width]


def crowd_holds(book, kind, order, crowd):
    """Whether a crowd holds a kind."""
    check_asked(book, kind, order)
    check_crowd(book.width, order, crowd)
    return kind in _levels(book, order, crowd)[order][0]


def held_kinds(book, order, crowd):
    """The kinds that a crowd holds."""
    check_book(book)
    check_crowd(book.width, order, crowd)
    return _levels(book, order, crowd)[order][0]


def _is_least(book, kind, order, crowd):
    if order == 0:
        return crowd == (0,)
    rule = book[kind]
    parts = split_crowd(book.width, power(book.width, order - 1), crowd)
    places = tuple([place for place, part in enumerate(parts) if part != ()])
    if places not in rule.family:
        return False
    return all([_is_least(book, rule.row[place], order - 1, parts[place]) for place in places])


def is_least_quorum(book, kind, order, value):
    """Whether the value is a crowd that is a least quorum of a kind."""
    check_asked(book, kind, order)
    check_few_seats(book.width, order)
    return are_numbers(value, power(book.width, order)) and _is_least(book, kind, order, value)


def is_least_block(book, kind, order, value):
    """Whether the value is a crowd that is a block of a kind, without a smaller one in it."""
    check_asked(book, kind, order)
    return is_least_quorum(book.dual(), kind, order, value)


def _quorum_at(book, levels, kind, order, index):
    """The seats of a least quorum in what the levels tell of, in the row with the index."""
    if order == 0:
        return [index]
    rule = book[kind]
    least = rule.least_in(_places_held(rule, _parts_at(book, levels, order, index)))[0]
    found = []
    for place in least:
        found = found + _quorum_at(book, levels, rule.row[place], order - 1, index * book.width + place)
    return found


def least_quorum_in(book, kind, order, crowd):
    """A least quorum in a crowd."""
    check_asked(book, kind, order)
    check_crowd(book.width, order, crowd)
    levels = _levels(book, order, crowd)
    if kind not in levels[order][0]:
        raise NoQuorum(kind)
    return tuple(_quorum_at(book, levels, kind, order, 0))


def _counts(book, order):
    """For each order up to this one, a dict from the kinds to how many least quorums they have."""
    counts = [{kind: 1 for kind in book.kinds}]
    for _ in range(order):
        below = counts[-1]
        counts.append({
            kind: sum([product_at(book[kind], below, least) for least in book[kind].family]) for kind in book.kinds
        })
    return counts


def product_at(rule, below, places):
    """The product of what the kinds of the places have: of numbers of quorums, that of the rows of them."""
    found = 1
    for place in places:
        found = found * below[rule.row[place]]
    return found


def _each_at(book, counts, kind, order):
    """All least quorums of a kind."""
    if order == 0:
        yield (0,)
    else:
        rule = book[kind]
        below = order - 1
        for least in rule.family:
            for quorum in _each_row(book, counts, rule, least, below):
                yield quorum


def _each_row(book, counts, rule, places, order):
    """All rows of least quorums of this order at the places, that of the last one changing fastest."""
    if places == ():
        yield ()
    else:
        kind = rule.row[places[0]]
        start = places[0] * power(book.width, order)
        rest = places[1:]
        is_short = product_at(rule, counts[order], rest) <= _FEW
        tails = []
        if is_short:
            tails = list(_each_row(book, counts, rule, rest, order))
        for quorum in _each_at(book, counts, kind, order):
            head = tuple([start + number for number in quorum])
            if is_short:
                for tail in tails:
                    yield head + tail
            else:
                for tail in _each_row(book, counts, rule, rest, order):
                    yield head + tail


def each_least(book, kind, order):
    """All least quorums of a kind, each once, by the least sets, and then by the quorums at their places."""
    check_asked(book, kind, order)
    check_few_seats(book.width, order)
    counts = _counts(book, order)
    for quorum in _each_at(book, counts, kind, order):
        yield quorum


def verdict(book, kind, order, crowd):
    """A least quorum in the crowd, or a least block among the other seats."""
    check_asked(book, kind, order)
    check_crowd(book.width, order, crowd)
    levels = _levels(book, order, crowd)
    if kind in levels[order][0]:
        return (_HOLDS, tuple(_quorum_at(book, levels, kind, order, 0)))
    return (_LACKS, least_quorum_in(book.dual(), kind, order, others_of(book.width, order, crowd)))


def is_verdict(book, kind, order, crowd, value):
    """Whether the value is a verdict."""
    check_asked(book, kind, order)
    check_crowd(book.width, order, crowd)
    if not isinstance(value, tuple) or len(value) != 2:
        return False
    word, seats = value
    taken = set(crowd)
    if word == _HOLDS:
        return is_least_quorum(book, kind, order, seats) and all([number in taken for number in seats])
    if word == _LACKS:
        return is_least_block(book, kind, order, seats) and not any([number in taken for number in seats])
    return False


def _pivots_at(book, levels, kind, order, index):
    """The seats that alone change whether the kind is held in the row with the index."""
    if order == 0:
        return [index]
    rule = book[kind]
    places = _places_held(rule, _parts_at(book, levels, order, index))
    holds = has_least(rule.family, places)
    found = []
    for place in rule.used:
        changed = [other for other in places if other != place] if place in places else places + (place,)
        if has_least(rule.family, changed) != holds:
            found = found + _pivots_at(book, levels, rule.row[place], order - 1, index * book.width + place)
    return found


def pivots(book, kind, order, crowd):
    """The seats that alone change whether the crowd holds the kind."""
    check_asked(book, kind, order)
    check_crowd(book.width, order, crowd)
    return tuple(_pivots_at(book, _levels(book, order, crowd), kind, order, 0))


def _tables(book, order):
    """A dict from the kinds to lists that tell for all crowds, as binary digits, whether they hold it."""
    tables = {kind: [False, True] for kind in book.kinds}
    size = 1
    for _ in range(order):
        seats = size * book.width
        tables = {kind: _table(book[kind], tables, size, 1 << seats) for kind in book.kinds}
        size = seats
    return tables


def _table(rule, below, size, many):
    """For so many crowds whether they hold the rule's kind, by tables of the order below with parts of this size."""
    found = []
    for bits in range(many):
        places = [
            place for place, kind in enumerate(rule.row) if below[kind][bits >> place * size & (1 << size) - 1]
        ]
        found.append(has_least(rule.family, places))
    return found


def shares(book, kind, order):
    """A dict from the seats to how many crowds without the seat hold the kind only with it."""
    check_asked(book, kind, order)
    seats = power(book.width, order)
    if seats > _MAX_SHARERS:
        raise TooMany(_MAX_SHARERS)
    table = _tables(book, order)[kind]
    return {
        seat: len([bits for bits in range(len(table)) if not table[bits] and table[bits | 1 << seat]])
        for seat in range(seats)
    }
