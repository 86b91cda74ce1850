"""movecells/errors.py: every class, what stands above it, and what it keeps."""

import inspect
import unittest

from movecells import errors
from tests.support import odd_values

ABOVE = {
    "CellError": ValueError,
    "MissingError": LookupError,
    "StateError": RuntimeError,
    "LimitError": ArithmeticError,
}

VALUE = (
    "InvalidNumber InvalidPhase InvalidSign InvalidPair InvalidLength InvalidClosed InvalidAxis InvalidName"
    " InvalidPlace InvalidKind InvalidDirection InvalidMove InvalidEdges InvalidBegins InvalidEntry InvalidReach"
    " InvalidDistance InvalidLooks InvalidPlaces InvalidWord InvalidTarget InvalidState InvalidRule InvalidTable"
    " InvalidMap InvalidPlan InvalidGauge InvalidClaim InvalidCommand"
).split()

LISTED = {name: ("CellError", ["value"]) for name in VALUE}
LISTED.update({
    "InvalidRounds": ("CellError", ["position"]),
    "InvalidStates": ("CellError", ["position"]),
    "InvalidMoves": ("CellError", ["position"]),
    "InvalidText": ("CellError", ["line"]),
    "UnknownWord": ("MissingError", ["value"]),
    "DividedByZero": ("StateError", []),
    "NotBalanced": ("StateError", ["columns", "rows"]),
    "OtherPlan": ("StateError", ["one", "other"]),
    "OtherMap": ("StateError", ["one", "other"]),
    "NoNeighbour": ("StateError", ["value", "move"]),
    "NothingToUndo": ("StateError", []),
    "CommandFailed": ("StateError", ["position"]),
    "TooMany": ("LimitError", ["what", "limit"]),
})


def made(name):
    """An error of a class, with some values."""
    return getattr(errors, name)(*LISTED.get(name, ("", []))[1])


class TestErrors(unittest.TestCase):
    def test_just_the_listed_classes_stand_there(self):
        there = [name for name, value in vars(errors).items() if inspect.isclass(value)]
        self.assertEqual(sorted(there), sorted(list(ABOVE) + list(LISTED)))
        self.assertEqual(len(there), 46)
        for name in there:
            self.assertEqual(getattr(errors, name).__module__, "movecells.errors")

    def test_upper_classes(self):
        for name, above in ABOVE.items():
            self.assertEqual(getattr(errors, name).__bases__, (above,))
        for name, (above, _) in LISTED.items():
            self.assertEqual(getattr(errors, name).__bases__, (getattr(errors, above),))

    def test_an_error_is_an_instance_of_no_other_class(self):
        for name in list(ABOVE) + list(LISTED):
            above = LISTED.get(name, (name, []))[0]
            error = made(name)
            for other in list(ABOVE) + list(LISTED):
                told = isinstance(error, getattr(errors, other))
                self.assertEqual(told, other in (name, above), (name, other))
            for kind in ABOVE.values():
                self.assertEqual(isinstance(error, kind), kind is ABOVE[above], (name, kind))

    def test_parameters(self):
        for name, (_, parameters) in LISTED.items():
            if parameters:
                told = inspect.signature(getattr(errors, name)).parameters.values()
                self.assertEqual([one.name for one in told], parameters)
                self.assertEqual([one.default for one in told], [inspect.Parameter.empty] * len(parameters))

    def test_any_values_are_kept_by_position_and_by_names(self):
        values = odd_values() + [0, -5, 10 ** 60, ValueError("x")]
        for name, (_, parameters) in LISTED.items():
            for at in range(len(values)):
                given = [values[(at + k) % len(values)] for k in range(len(parameters))]
                one = getattr(errors, name)(*given)
                other = getattr(errors, name)(**dict(zip(parameters, given)))
                for parameter, value in zip(parameters, given):
                    self.assertIs(getattr(one, parameter), value)
                    self.assertIs(getattr(other, parameter), value)

    def test_attributes_are_each_error_s_own(self):
        one = errors.NotBalanced(4, 2)
        other = errors.NotBalanced(1, 8)
        self.assertEqual((one.columns, one.rows, other.columns, other.rows), (4, 2, 1, 8))

    def test_errors_can_be_raised_and_caught_by_each_class_above(self):
        for name in LISTED:
            above = LISTED[name][0]
            for kind in (getattr(errors, name), getattr(errors, above), ABOVE[above]):
                with self.assertRaises(kind):
                    raise made(name)

    def test_errors_without_values(self):
        for name in ("DividedByZero", "NothingToUndo", "CellError", "MissingError", "StateError", "LimitError"):
            self.assertEqual(vars(getattr(errors, name)()), {})


if __name__ == "__main__":
    unittest.main()
