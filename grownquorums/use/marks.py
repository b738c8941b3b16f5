"""Crowds as integers, with the seat 0 as the lowest bit."""


def marked(crowd):
    """The integer whose bits are the seats of a crowd."""
    bits = 0
    for number in crowd:
        bits = bits | 1 << number
    return bits


def lowest_mark(bits):
    """The lowest seat, of at least one."""
    return (bits & -bits).bit_length() - 1


def marks(bits):
    """The seats, ascending."""
    found = []
    while bits:
        found.append(lowest_mark(bits))
        bits = bits & bits - 1
    return found


def _held_above(rule, held, size):
    """The integer whose bits tell where the rule is held, each at the first seat of its part.

    The kinds of the rule are held at parts of this size; bits at other seats tell nothing.
    """
    shifted = [held[kind] >> place * size if place in rule.used else 0 for place, kind in enumerate(rule.row)]
    found = 0
    for least in rule.family:
        bits = shifted[least[0]]
        for place in least[1:]:
            bits = bits & shifted[place]
        found = found | bits
    return found


def are_holding(book, kind, order, bits):
    """Whether the seats hold a kind."""
    held = {other: bits for other in book.needed(kind)}
    size = 1
    for _ in range(order):
        held = {other: _held_above(book[other], held, size) for other in held}
        size = size * book.width
    return held[kind] & 1 == 1
