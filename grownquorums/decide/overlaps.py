"""How many seats quorums of two or three kinds share at least."""

from grownquorums.base.words import is_count
from grownquorums.decide.meets import are_sets_of, check_group, is_group_of
from grownquorums.decide.ways import (
    cheapest_choice, costs_upto, groups_below, groups_of, least_costs, named_quorums, ways_from,
)
from grownquorums.errors import InvalidNumber, InvalidOperation, TooMany
from grownquorums.seats.seats import check_few_seats, check_order

MAX_BOUND = 50
MAX_CYCLE = 400


def _check(book, group, order):
    check_group(book, group)
    check_order(order)


def overlaps_upto(book, group, order):
    """The overlaps of a group at all orders up to this one."""
    _check(book, group, order)
    return tuple([costs[group] for costs in costs_upto(ways_from(book, [group]), order)])


def overlap(book, group, order):
    """The overlap of a group at an order."""
    return overlaps_upto(book, group, order)[order]


def joint_choice(book, group, order):
    """A joint choice whose cost is the overlap."""
    _check(book, group, order)
    ways = ways_from(book, [group])
    return cheapest_choice(ways, group, costs_upto(ways, order))


def _are_picks(book, size, value):
    """Whether the value is a dict from groups of so many kinds to least sets of their kinds."""
    if not isinstance(value, dict):
        return False
    for group, sets in value.items():
        if not is_group_of(book, size, group) or not are_sets_of(book, group, sets):
            return False
    return True


def _is_joint_choice(book, group, order, value):
    if not isinstance(value, tuple) or len(value) != order:
        return False
    named = [group]
    for picks in value[::-1]:
        if not _are_picks(book, len(group), picks) or not all([one in picks for one in named]):
            return False
        named = [lower for one, sets in picks.items() for lower in groups_below(book, one, sets)]
    return True


def is_joint_choice(book, group, order, value):
    """Whether the value is a joint choice of this order for the group."""
    _check(book, group, order)
    return _is_joint_choice(book, group, order, value)


def joint_cost(book, group, order, choice):
    """How many seats are shared by the quorums that a joint choice names."""
    _check(book, group, order)
    if not _is_joint_choice(book, group, order, choice):
        raise InvalidOperation("no joint choice of this order for the group")
    costs = {group: 1}
    below = {}
    for picks in choice:
        # Only at order 0 is there nothing below, and each group shares its one seat.
        costs = {
            one: sum([below.get(lower, 1) for lower in groups_below(book, one, sets)]) for one, sets in picks.items()
        }
        below = costs
    return costs[group]


def sharing_quorums(book, group, order):
    """Least quorums, one of each kind of the group, that share just as many seats as the overlap tells."""
    _check(book, group, order)
    check_few_seats(book.width, order)
    return named_quorums(book, group, order, joint_choice(book, group, order))


def _check_bound(bound):
    if not is_count(bound) or bound > MAX_BOUND:
        raise InvalidNumber(bound)


def rhythm(book, group, bound):
    """The turn and the period of the capped overlaps, and those of the group at the orders below both together."""
    check_group(book, group)
    _check_bound(bound)
    ways = ways_from(book, groups_of(book, len(group)))
    capped = {one: 1 for one in ways}
    history = []
    known = {}
    while tuple(capped.values()) not in known:
        if len(history) == MAX_CYCLE:
            raise TooMany(MAX_CYCLE)
        known[tuple(capped.values())] = len(history)
        history.append(capped[group])
        costs = least_costs(ways, capped)
        capped = {one: min(costs[one], bound + 1) for one in ways}
    turn = known[tuple(capped.values())]
    return (turn, len(history) - turn, tuple(history))


def is_at_most(book, group, bound):
    """Whether the overlaps of a group are at most a bound at all orders."""
    return first_above(book, group, bound) is None


def first_above(book, group, bound):
    """The least order at which the overlap of a group is greater than a bound, None if there is none."""
    found = rhythm(book, group, bound)
    above = [order for order, cost in enumerate(found[2]) if cost > bound]
    return above[0] if above else None


def is_overlap_at_most(book, group, order, bound):
    """Whether the overlap of a group at an order is at most a bound."""
    check_group(book, group)
    if not is_count(order):
        raise InvalidNumber(order)
    turn, period, capped = rhythm(book, group, bound)
    at = order if order < turn else turn + (order - turn) % period
    return capped[at] <= bound
