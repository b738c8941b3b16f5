"""Books: rules for one to six kinds."""

from grownquorums.base.lines import entries_of, width_in, width_line
from grownquorums.base.sets import check_width
from grownquorums.base.words import is_letter
from grownquorums.books.rules import Rule, rule_in
from grownquorums.errors import InvalidBook, ParseError, UnknownName

MAX_KINDS = 6
MAX_ORDER = 200

# What stands for the line of the width where each line of a rule has its kind.
_WIDTH = "width"


def check_book(book):
    """Refuse what is no book."""
    if not isinstance(book, Book):
        raise InvalidBook("no book")


def check_kind(book, kind):
    """Refuse what is no kind of the book."""
    if kind not in book.kinds:
        raise UnknownName(kind)


def _are_rules(width, rules):
    """Whether there is a book of this width with these rules."""
    if not isinstance(rules, dict) or not 1 <= len(rules) <= MAX_KINDS:
        return False
    for kind, rule in rules.items():
        if not is_letter(kind) or not isinstance(rule, Rule) or rule.width != width:
            return False
    return all([kind in rules for rule in rules.values() for kind in rule.row])


def _kind_line(kind, rule):
    return f"kind {kind} {rule}"


def _entry_in(line):
    """What a line stands for: a pair of its kind and its rule, or of a word and a width."""
    width = width_in(line)
    if width is not None:
        return (_WIDTH, width)
    if not isinstance(line, str) or not line.startswith("kind ") or line[6:7] != " ":
        return None
    kind = line[5]
    rule = rule_in(line[7:])
    return (kind, rule) if is_letter(kind) and rule is not None else None


def _book_of(entries):
    if _WIDTH not in entries:
        raise InvalidBook("no line of the width")
    return Book(entries[_WIDTH], {kind: entries[kind] for kind in entries if kind != _WIDTH})


class Book:
    """A width, and a rule for each of its kinds."""

    def __init__(self, width, rules):
        check_width(width)
        if not _are_rules(width, rules):
            raise InvalidBook("no rules of a book of this width")
        self._width = width
        self._rules = {kind: rules[kind] for kind in sorted(rules)}
        self._kinds = tuple(self._rules)
        self._lines = tuple([width_line(width)] + [_kind_line(kind, self._rules[kind]) for kind in self._kinds])

    @classmethod
    def from_lines(cls, *lines):
        """The book with these lines, in any order."""
        return _book_of(entries_of(lines, _entry_in))

    @property
    def width(self):
        """How many places each rule has."""
        return self._width

    @property
    def kinds(self):
        """The kinds, ascending."""
        return self._kinds

    @property
    def rules(self):
        """A dict from the kinds to their rules."""
        return dict(self._rules)

    @property
    def lines(self):
        """The line of the width, and those of the kinds."""
        return self._lines

    def with_line(self, line):
        """The book with this line in the place of that of the width or of its kind."""
        entry = _entry_in(line)
        if entry is None:
            raise ParseError(None)
        entries = dict(self._rules)
        entries[_WIDTH] = self._width
        entries[entry[0]] = entry[1]
        return _book_of(entries)

    def without(self, kind):
        """The book without a kind."""
        check_kind(self, kind)
        return Book(self._width, {other: self._rules[other] for other in self._kinds if other != kind})

    def needed(self, kind):
        """The kinds whose systems matter for that of a kind at some order."""
        check_kind(self, kind)
        found = [kind]
        at = 0
        while at < len(found):
            made_of = self._rules[found[at]].made_of
            found = found + [other for other in made_of if other not in found]
            at += 1
        return tuple(sorted(found))

    def part(self, kind):
        """The book with just the needed kinds, which has no other kinds at places that are not used."""
        rules = {}
        for other in self.needed(kind):
            rule = self._rules[other]
            row = tuple([made if place in rule.used else other for place, made in enumerate(rule.row)])
            rules[other] = Rule(row, rule.family)
        return Book(self._width, rules)

    def dual(self):
        """The book with the dual families."""
        return Book(self._width, {kind: self._rules[kind].dual() for kind in self._kinds})

    def joined(self, other):
        """The book with the kinds of both."""
        if not isinstance(other, Book) or other.width != self._width:
            raise InvalidBook("no other book of this width")
        if any([kind in self._kinds for kind in other.kinds]):
            raise InvalidBook("the books have a kind in common")
        rules = dict(self._rules)
        for kind, rule in other.rules.items():
            rules[kind] = rule
        return Book(self._width, rules)

    def __getitem__(self, kind):
        check_kind(self, kind)
        return self._rules[kind]

    def __contains__(self, value):
        return value in self._kinds or value in self._lines

    def __len__(self):
        return len(self._kinds)

    def __iter__(self):
        return iter(self._kinds)

    def __eq__(self, other):
        return isinstance(other, Book) and self._lines == other._lines

    def __str__(self):
        return f"book of {len(self._kinds)} kinds, width {self._width}"
