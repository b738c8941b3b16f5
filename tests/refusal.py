"""What tests of wrong values share: each wrong value alone, and several at once."""

import itertools
import pickle

from grownquorums.errors import InvalidNumber, NoQuorum, ParseError, TooMany, UnknownName

# What the errors keep of the value that they refuse.
KEPT = {InvalidNumber: "value", UnknownName: "word", NoQuorum: "sought"}


class Refusal:
    """To be mixed into a TestCase that has these three.

    GOOD has a right value for each kind of parameter, WRONG a pair of wrong values and their error,
    CALLS pairs of a function and the kinds of its parameters, in their order.
    """

    GOOD = {}
    WRONG = {}
    CALLS = ()

    def refused(self, function, values, error, told=None):
        """The call raises just this error, which keeps what it is told."""
        with self.assertRaises(error) as caught:
            function(*values)
        self.assertIs(type(caught.exception), error)
        if error in KEPT:
            self.assertIs(getattr(caught.exception, KEPT[error]), told)
        if error is ParseError:
            self.assertEqual(caught.exception.number, told)
        if error is TooMany:
            self.assertEqual(caught.exception.limit, told)

    def told(self, error, value):
        return None if error is ParseError else value

    def test_good_values_are_taken(self):
        for function, kinds in self.CALLS:
            values = [self.GOOD[kind] for kind in kinds]
            before = pickle.dumps(values)
            self.assertEqual(function(*values), function(*values))
            self.assertEqual(pickle.dumps(values), before)

    def test_each_wrong_value(self):
        for function, kinds in self.CALLS:
            for at, kind in enumerate(kinds):
                if kind not in self.WRONG:
                    continue
                values = [self.GOOD[other] for other in kinds]
                wrong, error = self.WRONG[kind]
                for value in wrong:
                    values[at] = value
                    with self.subTest(function=function, at=at):
                        before = pickle.dumps(values)
                        self.refused(function, values, error, self.told(error, value))
                        self.assertEqual(pickle.dumps(values), before)

    def test_of_several_wrong_values_the_first_one_decides(self):
        for function, kinds in self.CALLS:
            for pattern in itertools.product((False, True), repeat=len(kinds)):
                bad = [at for at, wrong in enumerate(pattern) if wrong]
                if len(bad) < 2 or not all(kinds[at] in self.WRONG for at in bad):
                    continue
                error = self.WRONG[kinds[bad[0]]][1]
                for seed in range(7):
                    values = [self.GOOD[kind] for kind in kinds]
                    for at in bad:
                        wrong = self.WRONG[kinds[at]][0]
                        values[at] = wrong[(seed * 31 + at * 7) % len(wrong)]
                    with self.subTest(function=function, bad=bad):
                        self.refused(function, values, error, self.told(error, values[bad[0]]))


def first_of(generator):
    """A function that asks a generator for its first result."""
    def call(*values):
        return next(iter(generator(*values)))
    return call
