"""Texts of books, of camps and of meeting papers."""

from grownquorums.base.lines import count_in
from grownquorums.base.sets import ascends, family_in, is_set, write_family
from grownquorums.base.words import is_count, is_letter
from grownquorums.books.books import MAX_ORDER, Book, check_book
from grownquorums.books.rules import MAX_WIDTH
from grownquorums.errors import InvalidCamp, InvalidPaper, ParseError
from grownquorums.seats.camps import Camp

_MEET = "meet"
_SPLIT = "split"


def _lines_in(text):
    if not isinstance(text, str):
        raise ParseError(None)
    return text.split("\n")


def write_book(book):
    """The text of a book."""
    check_book(book)
    return "\n".join(book.lines)


def read_book(text):
    """The book with a text."""
    lines = _lines_in(text)
    return Book.from_lines(*lines)


def write_camp(camp):
    """The text of a camp."""
    if not isinstance(camp, Camp):
        raise InvalidCamp("no camp")
    return "\n".join(camp.lines)


def read_camp(text):
    """The camp with a text."""
    lines = _lines_in(text)
    return Camp.from_lines(*lines)


def _is_group(value):
    """Whether the value is a group of letters."""
    if not isinstance(value, tuple) or len(value) not in (2, 3) or not all([is_letter(kind) for kind in value]):
        return False
    return all([one <= other for one, other in zip(value, value[1:])])


def _is_entry(value):
    """Whether the value is an order with a group and a set for each of its kinds."""
    if not isinstance(value, tuple) or len(value) != 3:
        return False
    order, group, sets = value
    if not is_count(order) or not 1 <= order <= MAX_ORDER or not _is_group(group):
        return False
    if not isinstance(sets, tuple) or len(sets) != len(group):
        return False
    return all([is_set(MAX_WIDTH, places) for places in sets])


def _group_of(word, row):
    """The group of a row of a paper, None if the value is no such row."""
    if word == _MEET:
        return row if _is_group(row) else None
    return row[1] if _is_entry(row) else None


def _is_paper(value):
    """Whether the value has the form of a meeting paper for some book."""
    if not isinstance(value, tuple) or len(value) != 2 or value[0] not in (_MEET, _SPLIT):
        return False
    word, rows = value
    if not isinstance(rows, tuple) or rows == ():
        return False
    groups = [_group_of(word, row) for row in rows]
    if any([group is None for group in groups]) or any([len(group) != len(groups[0]) for group in groups]):
        return False
    return ascends(rows)


def _row_text(word, row):
    if word == _MEET:
        return " ".join(row)
    order, group, sets = row
    # The text of one set is that of the family of this set alone.
    texts = [write_family(MAX_WIDTH, (places,)) for places in sets]
    return " ".join([str(order), *group, "by", *texts])


def write_paper(paper):
    """The text of a meeting paper."""
    if not _is_paper(paper):
        raise InvalidPaper("nothing of the form of a meeting paper")
    word, rows = paper
    return "\n".join([word] + [_row_text(word, row) for row in rows])


def _entry_in(words):
    """The entry of a paper with these words, None if they are those of none."""
    # There is a set for each kind, and the word between them stands in the middle.
    many = len(words) // 2 - 1
    families = [family_in(MAX_WIDTH, word) for word in words[many + 2:]]
    if words[many + 1] != "by" or any([family is None for family in families]):
        return None
    entry = (count_in(words[0]), tuple(words[1:many + 1]), tuple([family[0] for family in families]))
    return entry if _is_entry(entry) else None


def _row_in(word, line):
    """The row of a paper that a line stands for, None if it stands for none."""
    words = line.split(" ")
    if word == _SPLIT:
        return _entry_in(words)
    return tuple(words) if _is_group(tuple(words)) else None


def _follows(word, last, row):
    """Whether a row can follow the last one."""
    return len(_group_of(word, last)) == len(_group_of(word, row)) and last < row


def read_paper(text):
    """The meeting paper with a text."""
    lines = _lines_in(text)
    word = lines[0]
    if word not in (_MEET, _SPLIT):
        raise ParseError(0)
    rows = []
    for index, line in enumerate(lines[1:], start=1):
        row = _row_in(word, line)
        if row is None or rows and not _follows(word, rows[-1], row):
            raise ParseError(index)
        rows.append(row)
    if not rows:
        raise ParseError(len(lines))
    return (word, tuple(rows))
