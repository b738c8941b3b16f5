"""All errors of the package."""


class CouncilError(ValueError):
    """What is passed has not the form that it must have."""


class InvalidSet(CouncilError):
    """No set of places, no family, or no tuple of sets."""


class InvalidRule(CouncilError):
    """No row of kinds, or no family that fits it."""


class InvalidBook(CouncilError):
    """No book, or rules of which there is no book."""


class InvalidCamp(CouncilError):
    """No camp, or states of which there is no camp."""


class InvalidSeat(CouncilError):
    """No seat of this width and order."""


class InvalidPaper(CouncilError):
    """Nothing that has the form of a paper."""


class InvalidOperation(CouncilError):
    """Nothing that can be used for what is asked."""


class ParseError(CouncilError):
    """A text of nothing; of several lines, the index of the wrong one."""

    def __init__(self, number):
        self.number = number


class UnknownName(KeyError):
    """A word that names nothing."""

    def __init__(self, word):
        self.word = word


class NoQuorum(LookupError):
    """No quorum of the kind that is sought."""

    def __init__(self, sought):
        self.sought = sought


class InvalidNumber(IndexError):
    """A value that is no number of the numbers that are let."""

    def __init__(self, value):
        self.value = value


class NothingToUndo(RuntimeError):
    """Fewer changes than should be taken back."""

    def __init__(self, many):
        self.many = many


class TooMany(OverflowError):
    """More than the limit lets."""

    def __init__(self, limit):
        self.limit = limit


class Refused(ArithmeticError):
    """What a council does not let, with the reason."""

    def __init__(self, reason):
        self.reason = reason
