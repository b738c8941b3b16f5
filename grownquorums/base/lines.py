"""Lines of books and of camps, and words in lines."""

from grownquorums.base.words import MAX_FIGURES
from grownquorums.errors import ParseError

_FIGURES = "0123456789"
_WIDTH_LINES = {"width 2": 2, "width 3": 3, "width 4": 4, "width 5": 5}


def width_line(width):
    """The line of a width, like width 3."""
    return f"width {width}"


def width_in(line):
    """The width of a line, None if the value is no such line."""
    if not isinstance(line, str):
        return None
    return _WIDTH_LINES.get(line)


def entries_of(lines, entry_in):
    """A dict of what the lines stand for, by a function that tells it of one line as a pair, or None."""
    entries = {}
    for index, line in enumerate(lines):
        entry = entry_in(line)
        if entry is None or entry[0] in entries:
            raise ParseError(index)
        entries[entry[0]] = entry[1]
    return entries


def count_in(word):
    """The integer that a word of figures without leading zeros stands for, None if the word is none.

    With more figures than integers can have it is -1, which like these is refused wherever a number is asked for.
    """
    if word == "" or not all([sign in _FIGURES for sign in word]) or word[0] == "0" and word != "0":
        return None
    return int(word) if len(word) <= MAX_FIGURES else -1
