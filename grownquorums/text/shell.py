"""A shell: commands that change a book and a camp, and that ask about them."""

from grownquorums.base.lines import count_in
from grownquorums.base.words import is_letter
from grownquorums.books.books import check_book, check_kind
from grownquorums.decide.duals import are_alike
from grownquorums.decide.meets import falling_order, meeting_paper
from grownquorums.decide.overlaps import overlap
from grownquorums.decide.within import fall_of
from grownquorums.errors import (
    InvalidBook, InvalidCamp, InvalidNumber, InvalidSeat, ParseError, TooMany, UnknownName,
)
from grownquorums.measure.sizes import fewest_failures, least_size
from grownquorums.seats.camps import Camp, check_camp, holds_at, pattern_of
from grownquorums.text.texts import write_paper

_FIGURES = "01234"
_NO_PLACES = "-"
_NO_COMMAND = "what"


# The readers take the words of a command, and return what its action is passed, None if it has not their form.

def _no_words(words):
    return () if len(words) == 1 else None


def _line(words):
    """The whole command, which is a line."""
    return (" ".join(words),) if len(words) > 1 else None


def _letters(words, fewest, most):
    return tuple(words) if fewest <= len(words) <= most and all([is_letter(word) for word in words]) else None


def _letter(words):
    return _letters(words[1:], 1, 1)


def _two_letters(words):
    return _letters(words[1:], 2, 2)


def _group(words):
    """A tuple of the letters of a group, which is passed as one."""
    letters = _letters(words[1:], 2, 3)
    return None if letters is None else (letters,)


def _with_number(told, words):
    """What is told, and the number behind it, like at 3."""
    if told is None or len(words) < 2 or words[-2] != "at":
        return None
    number = count_in(words[-1])
    return None if number is None else (*told, number)


def _letter_at(words):
    return _with_number(_letter(words[:-2]), words)


def _group_at(words):
    return _with_number(_group(words[:-2]), words)


def _number(words):
    number = count_in(words[1]) if len(words) == 2 else None
    return None if number is None else (number,)


def _seat(words):
    if len(words) != 2 or words[1] == "":
        return None
    if words[1] == _NO_PLACES:
        return ((),)
    places = tuple([_FIGURES.find(sign) for sign in words[1]])
    return None if -1 in places else (places,)


# What changes the book and the camp returns both.

def _kind_change(book, camp, line):
    return (book.with_line(line), camp)


def _drop_change(book, camp, kind):
    return (book.without(kind), camp)


def _dual_change(book, camp):
    return (book.dual(), camp)


def _state_change(book, camp, line):
    # Up to the letter of its state, a line is like "state p ".
    head = line[:8]
    lines = [other for other in camp.lines if other[:8] != head]
    return (book, Camp.from_lines(*lines, line))


def _first_change(book, camp, state):
    return (book, Camp(camp.width, state, camp.states))


def _rest_change(book, camp):
    return (book, camp.rest())


# What only asks returns the answer.

def _yes_or_no(answer):
    return "yes" if answer else "no"


def _until(fall):
    """The answer for what is true below an order, or at all orders."""
    return "yes" if fall is None else f"no from {fall}"


def _sorted_group(book, letters):
    for letter in letters:
        check_kind(book, letter)
    return tuple(sorted(letters))


def _show_answer(book, camp):
    return "; ".join(book.lines)


def _camp_answer(book, camp):
    return "; ".join(camp.lines)


def _meets_answer(book, camp, letters):
    return _until(falling_order(book, _sorted_group(book, letters)))


def _paper_answer(book, camp, letters):
    return write_paper(meeting_paper(book, _sorted_group(book, letters))).replace("\n", "; ")


def _overlap_answer(book, camp, letters, order):
    return str(overlap(book, _sorted_group(book, letters), order))


def _within_answer(book, camp, a, b):
    return _until(fall_of(book, book, a, b))


def _alike_answer(book, camp, a, b):
    return _yes_or_no(are_alike(book, book, a, b))


def _least_answer(book, camp, kind, order):
    return str(least_size(book, kind, order))


def _block_answer(book, camp, kind, order):
    return str(fewest_failures(book, kind, order))


def _holds_answer(book, camp, kind, order):
    return _yes_or_no(holds_at(book, kind, camp, order))


def _pattern_answer(book, camp, kind):
    turn, period, orders = pattern_of(book, kind, camp)
    told = " ".join([str(order) for order in orders]) if orders else "none"
    return f"{turn} {period}: {told}"


def _size_answer(book, camp, order):
    return str(camp.size(order))


def _has_answer(book, camp, seat):
    return _yes_or_no(camp.has(seat))


_CHANGES = {
    "kind": (_line, _kind_change), "drop": (_letter, _drop_change), "dual": (_no_words, _dual_change),
    "state": (_line, _state_change), "first": (_letter, _first_change), "rest": (_no_words, _rest_change),
}
_QUESTIONS = {
    "show": (_no_words, _show_answer), "camp": (_no_words, _camp_answer), "meets": (_group, _meets_answer),
    "paper": (_group, _paper_answer), "overlap": (_group_at, _overlap_answer),
    "within": (_two_letters, _within_answer), "alike": (_two_letters, _alike_answer),
    "least": (_letter_at, _least_answer), "block": (_letter_at, _block_answer), "holds": (_letter_at, _holds_answer),
    "pattern": (_letter, _pattern_answer), "size": (_number, _size_answer), "has": (_seat, _has_answer),
}


class Shell:
    """A book and a camp of its width, and what they were before."""

    def __init__(self, book, camp):
        check_book(book)
        check_camp(book, camp)
        self._book = book
        self._camp = camp
        self._past = []

    @property
    def book(self):
        """The book as it is now."""
        return self._book

    @property
    def camp(self):
        """The camp as it is now."""
        return self._camp

    def _undone(self):
        if not self._past:
            return "nothing"
        self._book, self._camp = self._past.pop()
        return "ok"

    def _changed(self, words):
        reader, action = _CHANGES[words[0]]
        told = reader(words)
        if told is None:
            return _NO_COMMAND
        book, camp = action(self._book, self._camp, *told)
        self._past.append((self._book, self._camp))
        self._book = book
        self._camp = camp
        return "ok"

    def _asked(self, words):
        reader, action = _QUESTIONS[words[0]]
        told = reader(words)
        return _NO_COMMAND if told is None else action(self._book, self._camp, *told)

    def _answer(self, words):
        if words == ["undo"]:
            return self._undone()
        if words[0] in _CHANGES:
            return self._changed(words)
        return self._asked(words) if words[0] in _QUESTIONS else _NO_COMMAND

    def __call__(self, command):
        if not isinstance(command, str):
            raise ParseError(None)
        try:
            return self._answer(command.split(" "))
        except ParseError:
            return "line"
        except InvalidBook:
            return "book"
        except InvalidCamp:
            return "camp"
        except UnknownName:
            return "name"
        except InvalidNumber:
            return "number"
        except InvalidSeat:
            return "seat"
        except TooMany:
            return "many"

    def __len__(self):
        return len(self._past)

    def __str__(self):
        return f"shell with {len(self._book)} kinds, {len(self._camp)} states"
