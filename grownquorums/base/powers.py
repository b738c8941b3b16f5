"""Powers of integers."""


def power(base, exponent):
    """The base to the power of the exponent, which is at least 0."""
    found = 1
    for _ in range(exponent):
        found = found * base
    return found
