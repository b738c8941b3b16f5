"""Kinds that are alike, kinds that are their own duals, and chains of ever better kinds."""

from grownquorums.base.words import is_count
from grownquorums.books.books import check_book, check_kind
from grownquorums.decide.meets import meets
from grownquorums.decide.within import Inclusion, check_kinds, fall_of, is_within, parting_camp
from grownquorums.errors import InvalidNumber

_SPLIT = "split"
_DUAL = "dual"
_OPEN = "open"


def _sooner(one, other):
    """The lesser one of two orders, each of which can be None."""
    orders = [order for order in (one, other) if order is not None]
    return min(orders, default=None)


def parting_order(one, other, a, b):
    """The least order at which not each of two kinds is within the other one, None if they are alike."""
    check_kinds(one, other, a, b)
    return _sooner(fall_of(one, other, a, b), fall_of(other, one, b, a))


def are_alike(one, other, a, b):
    """Whether each of two kinds is within the other one at all orders."""
    return parting_order(one, other, a, b) is None


def _classes_by(inclusion):
    """The kinds of the first book in tuples of all kinds that are alike."""
    kinds = inclusion.one.kinds
    alike = {
        kind: tuple([other for other in kinds if (kind, other) in inclusion and (other, kind) in inclusion])
        for kind in kinds
    }
    return tuple([alike[kind] for kind in kinds if alike[kind][0] == kind])


def classes_of(book):
    """The kinds of a book in tuples of all kinds that are alike."""
    check_book(book)
    return _classes_by(Inclusion(book, book))


def _check(book, kind):
    check_book(book)
    check_kind(book, kind)


def turns_of(book, kind):
    """The least orders at which a kind does not stand as dual, and at which it stands as split."""
    _check(book, kind)
    dual = book.dual()
    split = fall_of(book, dual, kind, kind)
    return (_sooner(split, fall_of(dual, book, kind, kind)), split)


def standing(book, kind, order):
    """How a kind stands at an order."""
    _check(book, kind)
    if not is_count(order):
        raise InvalidNumber(order)
    turn, split = turns_of(book, kind)
    if split is not None and order >= split:
        return _SPLIT
    return _OPEN if turn is not None and order >= turn else _DUAL


def open_camp(book, kind):
    """A camp that, like its rest, does not hold the kind from the least order on at which there is one."""
    _check(book, kind)
    # The rest of a camp does not hold the kind just where the camp holds it in the dual book.
    return parting_camp(book.dual(), book, kind, kind)


def is_better(book, a, b):
    """Whether a is within b and not alike to it, and both meet themselves."""
    check_kinds(book, book, a, b)
    if not is_within(book, book, a, b) or is_within(book, book, b, a):
        return False
    # What is within a kind that meets itself meets itself, too.
    return meets(book, (b, b))


def _nexts(inclusion, kinds):
    """A dict from the kinds, none of them alike, to those that each is within with no other one between."""
    above = {kind: [other for other in kinds if other != kind and (kind, other) in inclusion] for kind in kinds}
    return {
        kind: [
            other for other in above[kind] if not any([other in above[between] for between in above[kind]])
        ]
        for kind in kinds
    }


def chains_of(book):
    """All tuples of kinds, one of a class, each within the next one, that cannot be made longer."""
    check_book(book)
    inclusion = Inclusion(book, book)
    kinds = [alike[0] for alike in _classes_by(inclusion)]
    nexts = _nexts(inclusion, kinds)
    chains = [(kind,) for kind in kinds if not any([kind in nexts[other] for other in kinds])]
    found = []
    while chains:
        chain = chains.pop()
        further = nexts[chain[-1]]
        if not further:
            found.append(chain)
        chains.extend([(*chain, kind) for kind in further])
    return tuple(sorted(found))
