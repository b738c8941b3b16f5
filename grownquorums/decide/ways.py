"""Groups of kinds, and the ways in which least sets of their kinds share places.

A way of a group is a pair: a least set for each of its kinds, and the groups below at the places
that all of these sets share. Only ways that share the fewest places are looked at: whoever shares
these and more shares no fewer seats.
"""

from grownquorums.base.powers import power
from grownquorums.base.sets import contains


def groups_of(book, size):
    """All groups of two or three kinds of the book, ascending."""
    pairs = [(one, other) for one in book.kinds for other in book.kinds if one <= other]
    if size == 2:
        return pairs
    return [(one, other, last) for one, other in pairs for last in book.kinds if other <= last]


def group_below(book, group, place):
    """The kinds of the place, sorted."""
    return tuple(sorted([book[kind].row[place] for kind in group]))


def shared_places(sets):
    """The places that all of the sets have."""
    return [place for place in sets[0] if all([place in least for least in sets])]


def groups_below(book, group, sets):
    """The groups below at the places that all of the sets share."""
    return [group_below(book, group, place) for place in shared_places(sets)]


def _ways_of(book, group):
    """The ways of a group, one for each smallest tuple of shared places."""
    found = {tuple(range(book.width)): ()}
    for kind in group:
        further = {}
        for places, sets in found.items():
            for least in book[kind].family:
                shared = tuple([place for place in places if place in least])
                further[shared] = (*sets, least)
        found = {
            row: further[row] for row in further
            if not any([contains(row, other) for other in further if other != row])
        }
    return [(sets, groups_below(book, group, sets)) for sets in found.values()]


def ways_from(book, groups):
    """A dict from these groups, and all groups below them, to their ways."""
    ways = {}
    left = list(groups)
    while left:
        group = left.pop()
        if group not in ways:
            ways[group] = _ways_of(book, group)
            left = left + [lower for _, lowers in ways[group] for lower in lowers]
    return ways


def falls_in(ways):
    """A dict from the groups that do not meet at all orders to the least orders at which they do not."""
    falls = {}
    order = 0
    fresh = list(ways)
    while fresh:
        order += 1
        fresh = [group for group in ways if group not in falls and _is_falling(ways[group], falls)]
        for group in fresh:
            falls[group] = order
    return falls


def _is_falling(ways_of_group, falls):
    """Whether some way leads only to groups that do not meet."""
    return any([all([lower in falls for lower in lowers]) for _, lowers in ways_of_group])


def _cost(below, lowers):
    return sum([below[lower] for lower in lowers])


def least_costs(ways, below):
    """A dict from the groups to the least costs of their ways, by those of the order below."""
    return {group: min([_cost(below, lowers) for _, lowers in ways[group]]) for group in ways}


def costs_upto(ways, order):
    """For each order up to this one, a dict from the groups to their overlaps."""
    costs = [{group: 1 for group in ways}]
    for _ in range(order):
        costs.append(least_costs(ways, costs[-1]))
    return costs


def cheapest_choice(ways, group, costs):
    """A joint choice whose cost is the overlap, by the overlaps at all orders up to its own."""
    choice = []
    named = [group]
    for below in costs[:-1][::-1]:
        picks = {}
        further = []
        for one in sorted(set(named)):
            cheapest = min([(_cost(below, lowers), sets, lowers) for sets, lowers in ways[one]])
            picks[one] = cheapest[1]
            further = further + cheapest[2]
        choice.append(picks)
        named = further
    return tuple(choice[::-1])


def _first_quorum(book, kind, order):
    """Some least quorum of a kind."""
    if order == 0:
        return [0]
    rule = book[kind]
    size = power(book.width, order - 1)
    parts = [(place * size, _first_quorum(book, rule.row[place], order - 1)) for place in rule.family[0]]
    return [start + number for start, part in parts for number in part]


def _parts_at(book, group, order, choice, place):
    """The parts of the named quorums at a place, as pairs of an index in the group and the part."""
    sets = choice[order][group]
    kinds = sorted([(book[kind].row[place], at) for at, kind in enumerate(group) if place in sets[at]])
    if len(kinds) < len(group):
        return [(at, _first_quorum(book, kind, order)) for kind, at in kinds]
    parts = named_quorums(book, tuple([kind for kind, _ in kinds]), order, choice)
    return [(at, part) for (_, at), part in zip(kinds, parts)]


def named_quorums(book, group, order, choice):
    """Least quorums, one of each kind, that share just the seats that a joint choice tells of."""
    if order == 0:
        return tuple([(0,) for _ in group])
    size = power(book.width, order - 1)
    quorums = [[] for _ in group]
    for place in range(book.width):
        for at, part in _parts_at(book, group, order - 1, choice, place):
            quorums[at].extend([place * size + number for number in part])
    return tuple([tuple(quorum) for quorum in quorums])
