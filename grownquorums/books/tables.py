"""Sets of places as bits, and tables of which of them contain a least set of a rule."""


def bits_of(places):
    """The places as bits, the place 0 as the lowest one."""
    return sum([1 << place for place in places])


def held_table(rule):
    """A list that tells for all sets of places, as bits, whether they contain a least set of the rule."""
    masks = [bits_of(least) for least in rule.family]
    return [any([bits & mask == mask for mask in masks]) for bits in range(1 << rule.width)]
