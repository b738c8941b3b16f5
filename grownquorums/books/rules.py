"""Rules: a row of kinds, and a family of the places in it."""

from grownquorums.base.sets import (
    blocks_of, check_places, contains, family_in, has_least, is_family, is_set, placed, write_family,
)
from grownquorums.base.words import is_count, is_letter
from grownquorums.errors import InvalidNumber, InvalidOperation, InvalidRule, ParseError

MIN_WIDTH = 2
MAX_WIDTH = 5


def is_row(value):
    """Whether the value is a tuple of two to five kinds."""
    if not isinstance(value, tuple) or not MIN_WIDTH <= len(value) <= MAX_WIDTH:
        return False
    return all([is_letter(kind) for kind in value])


def rule_in(text):
    """The rule with a text, None if the value is the text of none."""
    if not isinstance(text, str):
        return None
    head, _, tail = text.partition(" least ")
    words = head.split(" ")
    row = tuple(words[1:])
    if words[0] != "of" or not is_row(row):
        return None
    family = family_in(len(row), tail)
    return None if family is None else Rule(row, family)


class Rule:
    """A row of kinds, one for each place, and its least sets of places."""

    def __init__(self, row, family):
        if not is_row(row):
            raise InvalidRule("no tuple of two to five kinds")
        if not is_family(len(row), family):
            raise InvalidRule("no family of places of the row")
        self._row = row
        self._family = family
        self._used = tuple(sorted(set([place for least in family for place in least])))
        self._made_of = tuple(sorted(set([row[place] for place in self._used])))

    @classmethod
    def from_text(cls, text):
        """The rule with a text."""
        rule = rule_in(text)
        if rule is None:
            raise ParseError(None)
        return rule

    @property
    def width(self):
        """The length of the row."""
        return len(self._row)

    @property
    def row(self):
        """The kinds of the places."""
        return self._row

    @property
    def family(self):
        """The least sets."""
        return self._family

    @property
    def used(self):
        """The places that are in a least set."""
        return self._used

    @property
    def made_of(self):
        """The kinds of the used places."""
        return self._made_of

    def holds(self, places):
        """Whether the places contain a least set."""
        check_places(len(self._row), places)
        return has_least(self._family, places)

    def least_in(self, places):
        """The least sets that the places contain."""
        check_places(len(self._row), places)
        return tuple([least for least in self._family if contains(places, least)])

    def dual(self):
        """The rule with the dual family."""
        return Rule(self._row, blocks_of(len(self._row), self._family))

    def permuted(self, turns):
        """The rule in which each place p has become turns[p]."""
        family = placed(len(self._row), self._family, turns)
        row = list(self._row)
        for place, turn in enumerate(turns):
            row[turn] = self._row[place]
        return Rule(tuple(row), family)

    def renamed(self, kinds):
        """The rule with other kinds, by a dict from just the kinds of the row."""
        if not isinstance(kinds, dict) or len(kinds) != len(set(self._row)):
            raise InvalidOperation("no dict from just the kinds of the row")
        row = tuple([kinds.get(kind) for kind in self._row])
        if not is_row(row):
            raise InvalidOperation("no dict from the kinds of the row to kinds")
        return Rule(row, self._family)

    def __getitem__(self, place):
        if not is_count(place) or place >= len(self._row):
            raise InvalidNumber(place)
        return self._row[place]

    def __contains__(self, value):
        return value in self._row or is_set(len(self._row), value) and value in self._family

    def __len__(self):
        return len(self._family)

    def __iter__(self):
        return iter(self._family)

    def __eq__(self, other):
        return isinstance(other, Rule) and self._row == other._row and self._family == other._family

    def __str__(self):
        return f"of {' '.join(self._row)} least {write_family(len(self._row), self._family)}"
