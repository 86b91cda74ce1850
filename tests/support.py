"""What several tests share: wrong values of all kinds, and errors with their attributes."""

import inspect

from movecells.plans import Plan
from movecells.ratios import Ratio


class Alike:
    """A value that says of itself that it is equal to everything."""

    def __eq__(self, other):
        return True

    __hash__ = None


def odd_values():
    """Values that are neither INTEGERS nor Ratios, True and False among them."""
    return [
        True, False, None, "", "0", "1", "east", b"", b"1", 1j, [], [0], [1, 2], (), (0,), (1, 2), ((0, 0),),
        {}, {0: 1}, set(), {1}, frozenset([1]), range(2), object(), int, len, Alike(), Plan.squares(2),
    ]


def no_integers():
    """Values that are no INTEGERS."""
    return odd_values() + [Ratio(0), Ratio(1), Ratio(1, 2)]


def no_counts():
    """Values that are no COUNTS."""
    return no_integers() + [-1, -2, -(10 ** 60)]


def no_counts_below(bound):
    """Values that are no COUNTS less than the bound."""
    return no_counts() + [bound, bound + 1, 10 ** 60]


class Checks:
    """Methods for test cases."""

    def fails(self, error, values, action, *args, **named):
        """The call raises just this error, with these values as its attributes."""
        names = list(inspect.signature(error.__init__).parameters)[1:] if values else []
        self.assertEqual(len(names), len(values))
        with self.assertRaises(error) as caught:
            action(*args, **named)
        self.assertIs(caught.exception.__class__, error)
        for name, value in zip(names, values):
            told = getattr(caught.exception, name)
            if isinstance(value, int):
                self.assertIs(told.__class__, value.__class__)
                self.assertEqual(told, value)
            elif isinstance(value, str):
                self.assertEqual(told, value)
            else:
                self.assertIs(told, value)

    def is_integer(self, told, value):
        """What was told is just this integer, and no bool."""
        self.assertIs(told.__class__, int)
        self.assertEqual(told, value)

    def is_pair(self, told, value):
        """What was told is a plain tuple of these integers."""
        self.assertIs(told.__class__, tuple)
        self.assertEqual([number.__class__ for number in told], [int, int])
        self.assertEqual(told, value)

    def has_parameters(self, function, *names):
        """The function has just these parameters (of a method without its object)."""
        self.assertEqual(tuple(inspect.signature(function).parameters), names)
