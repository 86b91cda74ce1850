"""What several tests share: wrong values of all kinds, and errors with their attributes."""

import inspect
import itertools

from movecells.plans import Plan
from movecells.ratios import Ratio


class Alike:
    """A value that says of itself that it is equal to everything."""

    def __eq__(self, other):
        return True

    __hash__ = None


class Row(tuple):
    """A tuple of another class."""


class Whole(int):
    """An INTEGER of another class."""


class Word(str):
    """A string of another class."""


def odd_values():
    """Values that are neither INTEGERS nor Ratios, True and False among them."""
    return [
        True, False, None, "", "0", "1", "east", b"", b"1", 1j, [], [0], [1, 2], (), (0,), (1, 2), ((0, 0),),
        {}, {0: 1}, set(), {1}, frozenset([1]), range(2), object(), int, len, Alike(), Plan.squares(2),
    ]


def not_of(kind):
    """Values that are not of a class of the package, INTEGERS and Ratios among them."""
    return [value for value in odd_values() + [0, 1, Ratio(1, 2)] if not isinstance(value, kind)]


def no_numbers():
    """Values that are no NUMBERS."""
    return [value for value in odd_values() if not isinstance(value, Ratio)]


def no_integers():
    """Values that are no INTEGERS."""
    return odd_values() + [Ratio(0), Ratio(1), Ratio(1, 2)]


def no_counts():
    """Values that are no COUNTS."""
    return no_integers() + [-1, -2, -(10 ** 60)]


def no_counts_below(bound):
    """Values that are no COUNTS less than the bound."""
    return no_counts() + [bound, bound + 1, 10 ** 60]


class Checks:
    """Methods for test cases."""

    def fails(self, error, values, action, *args, **named):
        """The call raises just this error, with these values as its attributes."""
        names = list(inspect.signature(error.__init__).parameters)[1:] if values else []
        self.assertEqual(len(names), len(values))
        with self.assertRaises(error) as caught:
            action(*args, **named)
        self.assertIs(caught.exception.__class__, error)
        for name, value in zip(names, values):
            told = getattr(caught.exception, name)
            if isinstance(value, int):
                self.assertIs(told.__class__, value.__class__)
                self.assertEqual(told, value)
            elif isinstance(value, str):
                self.assertEqual(told, value)
            else:
                self.assertIs(told, value)

    def fails_in_sequence(self, action, right, wrong):
        """Of several wrong arguments at once, the first one in the sequence of the parameters decides.

        right: all arguments by their names, in sequence; wrong: for some names (value, error, its attributes).
        """
        action(**right)
        action(*right.values())
        for many in range(1, len(wrong) + 1):
            for names in itertools.combinations([name for name in right if name in wrong], many):
                given = {name: wrong[name][0] if name in names else right[name] for name in right}
                _, error, values = wrong[names[0]]
                self.fails(error, values, action, **given)
                self.fails(error, values, action, *given.values())

    def fails_for_each(self, error, values, action, right, name):
        """Each of these values as the argument of this name raises the error with this value."""
        for value in values:
            self.fails(error, [value], action, **{**right, name: value})

    def is_ratio(self, told, fraction):
        """What was told is a Ratio, and just this number."""
        self.assertIs(told.__class__, Ratio)
        self.is_integer(told.top, fraction.numerator)
        self.is_integer(told.bottom, fraction.denominator)

    def are_ratios(self, told, fractions):
        """What was told is a plain tuple of these numbers as Ratios."""
        self.assertIs(told.__class__, tuple)
        self.assertEqual(len(told), len(fractions))
        for one, other in zip(told, fractions):
            self.is_ratio(one, other)

    def is_name(self, told, name):
        """What was told is a plain tuple of these INTEGERS."""
        self.assertIs(told.__class__, tuple)
        self.assertEqual([sign.__class__ for sign in told], [int] * len(name))
        self.assertEqual(told, tuple(name))

    def stands_in_class(self, kind, module, *, methods, properties=(), class_methods=(), values=()):
        """The class itself defines all that the interface lists for it."""
        self.assertEqual(kind.__module__, module)
        for name in methods:
            self.assertTrue(inspect.isfunction(vars(kind)[name]), name)
        for name in properties:
            self.assertIsInstance(vars(kind)[name], property, name)
        for name in class_methods:
            self.assertIsInstance(vars(kind)[name], classmethod, name)
        for name, value in values:
            self.is_integer(vars(kind)[name], value)

    def is_integer(self, told, value):
        """What was told is just this integer, and no bool."""
        self.assertIs(told.__class__, int)
        self.assertEqual(told, value)

    def is_pair(self, told, value):
        """What was told is a plain tuple of these integers."""
        self.assertIs(told.__class__, tuple)
        self.assertEqual([number.__class__ for number in told], [int, int])
        self.assertEqual(told, value)

    def has_parameters(self, function, *names):
        """The function has just these parameters (of a method without its object)."""
        self.assertEqual(tuple(inspect.signature(function).parameters), names)
