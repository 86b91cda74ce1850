"""movecells/names.py: names, number pairs, children, and all names of a fineness [2], [4], [21], [22]."""

import inspect
import itertools
import unittest

from movecells import names as file
from movecells.errors import InvalidName, InvalidNumber, InvalidPair, InvalidPlan, TooMany
from movecells.names import begins_with, cell, children, common, is_name, name_of, names
from movecells.plans import Plan
from movecells.ratios import Ratio
from tests import models
from tests.support import Alike, Checks, no_counts, no_counts_below, no_integers, not_of

SQUARES = Plan.squares(2)
MIXED = Plan([("east", 2), ("north", 2)], [("east", 3), ("north", 3)], [("north", 2), ("east", 2)])
PLANS = [Plan(*rounds) for rounds in models.ROUNDS]


def wrong_names(plan):
    """Values that are no names of the plan."""
    found = [value for value in no_integers() if not isinstance(value, tuple)] + [0, 1, [], [0, 0], "00", Alike(), Ratio(0)]
    for many in range(1, 5):
        right = (0,) * many
        for at in range(many):
            signs = models.signs_of(models.round_at(plan, at))
            for value in no_counts_below(signs):
                found.append(right[:at] + (value,) + right[at + 1:])
    long = tuple(models.signs_of(models.round_at(plan, at)) - 1 for at in range(48))
    return found + [long[:-1] + (long[-1] + 1,), (True,) + long[1:], long[:20] + (-1,) + long[21:], list(long)]


def great_names(plan):
    """Right names of 48 and of 1,000 signs."""
    greatest = [models.signs_of(models.round_at(plan, at)) - 1 for at in range(48)]
    columns, rows = models.counts(plan, 1000)
    return [
        tuple(greatest), tuple(at % (sign + 1) for at, sign in enumerate(greatest)),
        name_of(plan, 1000, (columns - 1, rows - 1)), name_of(plan, 1000, (columns // 3, rows // 7)),
    ]


class TestIsName(Checks, unittest.TestCase):
    def test_right_names(self):
        for plan in PLANS:
            for f in range(4 if plan.growth < 6 else 3):
                for name in models.all_names(plan, f):
                    self.assertIs(is_name(plan, name), True)
            for name in great_names(plan):
                self.assertIs(is_name(plan, name), True)
        self.assertIs(is_name(SQUARES, ()), True)
        self.assertIs(is_name(plan=SQUARES, value=(3, 3)), True)

    def test_just_the_greatest_sign_of_each_round(self):
        for name, told in (
            ((3, 8, 3, 3), True), ((4, 8, 3, 3), False), ((3, 9, 3, 3), False), ((3, 8, 4, 3), False),
            ((3, 8, 3, 4), False), ((3, 8, 3, 3, 8), True), ((3, 3, 8), False), ((8, 3, 3), False),
        ):
            self.assertIs(is_name(MIXED, name), told, name)

    def test_wrong_names(self):
        for plan in PLANS:
            for value in wrong_names(plan):
                self.assertIs(is_name(plan, value), False)

    def test_wrong_plans(self):
        self.fails_for_each(InvalidPlan, not_of(Plan), is_name, {"plan": None, "value": ()}, "plan")
        self.fails(InvalidPlan, [None], is_name, None, [True])


class TestCell(Checks, unittest.TestCase):
    def test_all_names_of_small_finenesses(self):
        for plan in PLANS:
            for f in range(4 if plan.growth < 6 else 3):
                told = {}
                for name in models.all_names(plan, f):
                    self.is_pair(cell(plan, name), models.pair_of(plan, name))
                    told[cell(plan, name)] = name
                columns, rows = models.counts(plan, f)
                self.assertEqual(sorted(told), list(itertools.product(range(columns), range(rows))))
                for pair, name in told.items():
                    self.is_name(name_of(plan, f, pair), name)

    def test_the_empty_name(self):
        for plan in PLANS:
            self.is_pair(cell(plan, ()), (0, 0))
            self.is_name(name_of(plan, 0, (0, 0)), ())

    def test_corners_of_great_finenesses(self):
        for plan in PLANS:
            for f in (5, 6, 48, 999, 1000):
                columns, rows = models.counts(plan, f)
                for pair in itertools.product((0, 1 % columns, columns // 2, columns - 1), (0, rows // 3, rows - 1)):
                    name = name_of(plan, f, pair)
                    self.assertEqual(len(name), f)
                    self.is_pair(cell(plan, name), pair)
                    if f < 50:
                        self.assertEqual(models.pair_of(plan, name), pair)

    def test_names_of_more_signs_than_a_fineness_can_be_passed(self):
        name = children(SQUARES, name_of(SQUARES, 1000, (1, 2)))[3]
        self.is_pair(cell(SQUARES, name), (3, 5))

    def test_by_names(self):
        self.is_pair(cell(plan=SQUARES, name=(2, 1)), (2, 1))
        self.is_name(name_of(pair=(3, 0), f=2, plan=SQUARES), (2, 2))

    def test_wrong_arguments(self):
        for plan in PLANS:
            self.fails_for_each(InvalidName, wrong_names(plan), cell, {"plan": plan}, "name")
        name = (4,)
        wrong = {"plan": (0, InvalidPlan, [0]), "name": (name, InvalidName, [name])}
        self.fails_in_sequence(cell, {"plan": SQUARES, "name": (3,)}, wrong)

    def test_wrong_pairs(self):
        for plan in PLANS:
            for f in (0, 1, 2, 3):
                columns, rows = models.counts(plan, f)
                pairs = [(value, 0) for value in no_counts_below(columns)] + [(0, value) for value in no_counts_below(rows)]
                pairs = pairs + [(columns, rows), [0, 0], (0,), (0, 0, 0), (), "00", 0, None, {0: 0}, Alike(), (Alike(), 0)]
                for pair in pairs:
                    self.fails(InvalidPair, [pair], name_of, plan, f, pair)
                self.assertEqual(len(name_of(plan, f, (columns - 1, rows - 1))), f)

    def test_wrong_finenesses(self):
        right = {"plan": SQUARES, "f": 1, "pair": (0, 0)}
        self.fails_for_each(InvalidNumber, no_counts(), name_of, right, "f")
        for f in (1001, 10 ** 60):
            self.fails(TooMany, ["signs", 1000], name_of, SQUARES, f, (0, 0))
        pair = (2, 0)
        self.fails_in_sequence(name_of, right, {
            "plan": ("plan", InvalidPlan, ["plan"]), "f": (1001, TooMany, ["signs", 1000]), "pair": (pair, InvalidPair, [pair]),
        })
        self.fails_in_sequence(name_of, right, {
            "plan": (5, InvalidPlan, [5]), "f": (-1, InvalidNumber, [-1]), "pair": (pair, InvalidPair, [pair]),
        })


class TestBeginnings(Checks, unittest.TestCase):
    def test_all_small_names(self):
        for plan in (SQUARES, Plan([("east", 2)], [("north", 2)]), Plan([("north", 3)], [("east", 3)])):
            some = [name for f in range(4) for name in models.all_names(plan, f)][:90]
            for name, other in itertools.product(some, repeat=2):
                many = 0
                while many < min(len(name), len(other)) and name[:many + 1] == other[:many + 1]:
                    many += 1
                self.is_name(common(plan, name, other), name[:many])
                self.assertIs(begins_with(plan, name, other), many == len(other))

    def test_names_that_part_somewhere(self):
        for plan in PLANS:
            for name in great_names(plan):
                self.assertIs(begins_with(plan, name, name), True)
                self.is_name(common(plan, name, name), name)
                self.is_name(common(plan, name, ()), ())
                self.is_name(common(plan, (), name), ())
                self.assertIs(begins_with(plan, name, ()), True)
                self.assertIs(begins_with(plan, (), name), False)
                for at in (0, 1, len(name) // 2, len(name) - 1):
                    signs = models.signs_of(models.round_at(plan, at))
                    other = name[:at] + ((name[at] + 1) % signs,) + name[at + 1:]
                    self.is_name(common(plan, name, other), name[:at])
                    self.is_name(common(plan, name, name[:at]), name[:at])
                    self.is_name(common(plan, name[:at], name), name[:at])
                    self.assertIs(begins_with(plan, name, other), False)
                    self.assertIs(begins_with(plan, name, name[:at]), True)
                    self.assertIs(begins_with(plan, name[:at], name), False)

    def test_empty_names(self):
        self.is_name(common(SQUARES, (), ()), ())
        self.assertIs(begins_with(SQUARES, (), ()), True)

    def test_wrong_arguments(self):
        for action in (begins_with, common):
            self.has_parameters(action, "plan", "name", "other")
            right = {"plan": SQUARES, "name": (1, 2), "other": (1,)}
            for name in ("name", "other"):
                self.fails_for_each(InvalidName, wrong_names(SQUARES), action, right, name)
            one, other = (4,), [0]
            self.fails_in_sequence(action, right, {
                "plan": (None, InvalidPlan, [None]), "name": (one, InvalidName, [one]), "other": (other, InvalidName, [other]),
            })
            self.fails(InvalidName, [True], action, SQUARES, (1,), True)


class TestChildren(Checks, unittest.TestCase):
    def test_children(self):
        for plan in PLANS:
            for name in models.all_names(plan, 0) + models.all_names(plan, 1) + models.all_names(plan, 2)[:40]:
                signs = models.signs_of(models.round_at(plan, len(name)))
                told = children(plan, name)
                self.assertIs(told.__class__, list)
                self.assertEqual(told, [name + (sign,) for sign in range(signs)])
                for child in told:
                    self.is_name(child, child)
                    self.assertIs(begins_with(plan, child, name), True)
        self.assertEqual(children(name=(1,), plan=SQUARES), [(1, 0), (1, 1), (1, 2), (1, 3)])

    def test_children_of_long_names(self):
        for plan in PLANS:
            for name in great_names(plan):
                told = children(plan, name)
                self.assertEqual(told, [name + (sign,) for sign in range(models.signs_of(models.round_at(plan, len(name))))])

    def test_they_are_new_each_time(self):
        told = children(SQUARES, ())
        told.append(5)
        self.assertEqual(children(SQUARES, ()), [(0,), (1,), (2,), (3,)])

    def test_wrong_arguments(self):
        right = {"plan": SQUARES, "name": (1, 2)}
        self.fails_for_each(InvalidName, wrong_names(SQUARES), children, right, "name")
        self.fails_in_sequence(children, right, {"plan": ("", InvalidPlan, [""]), "name": (1, InvalidName, [1])})


class TestNames(Checks, unittest.TestCase):
    def test_all_names_of_a_fineness(self):
        for plan in PLANS:
            for f in range(4 if plan.growth < 6 else 3):
                told = list(names(plan, f))
                self.assertEqual(told, models.all_names(plan, f))
                self.assertEqual(told, sorted(told))
                self.assertEqual(len(set(told)), len(told))
                for name in told[:20]:
                    self.is_name(name, name)
        self.assertEqual(list(names(f=0, plan=SQUARES)), [()])

    def test_a_generator_of_great_finenesses_that_is_given_up(self):
        for plan in PLANS:
            for f in (48, 1000):
                told = names(plan, f)
                self.assertTrue(inspect.isgenerator(told))
                last = models.signs_of(models.round_at(plan, f - 1))
                firsts = [next(told) for _ in range(last + 1)]
                self.assertEqual(firsts[:last], [(0,) * (f - 1) + (sign,) for sign in range(last)])
                self.assertEqual(firsts[last], (0,) * (f - 2) + (1, 0))
                told.close()
                self.assertEqual(next(names(plan, f)), (0,) * f)

    def test_two_generators_by_turns(self):
        one, other = names(SQUARES, 2), names(MIXED, 2)
        told = [(next(one), next(other)) for _ in range(16)]
        self.assertEqual([pair[0] for pair in told], models.all_names(SQUARES, 2))
        self.assertEqual([pair[1] for pair in told], models.all_names(MIXED, 2)[:16])
        self.assertRaises(StopIteration, next, one)
        self.assertEqual(list(other), models.all_names(MIXED, 2)[16:])

    def test_wrong_arguments_only_when_the_iteration_begins(self):
        for value in not_of(Plan):
            told = names(value, None)
            self.fails(InvalidPlan, [value], next, told)
            self.assertRaises(StopIteration, next, told)
        for f in no_counts():
            self.fails(InvalidNumber, [f], next, names(SQUARES, f))
        for f in (1001, 10 ** 60):
            self.fails(TooMany, ["signs", 1000], next, names(SQUARES, f))


class TestFile(Checks, unittest.TestCase):
    def test_everything_listed_is_defined_here(self):
        for name, parameters in (
            ("is_name", ["plan", "value"]), ("cell", ["plan", "name"]), ("name_of", ["plan", "f", "pair"]),
            ("begins_with", ["plan", "name", "other"]), ("common", ["plan", "name", "other"]),
            ("children", ["plan", "name"]), ("names", ["plan", "f"]),
        ):
            self.assertEqual(getattr(file, name).__module__, "movecells.names")
            self.has_parameters(getattr(file, name), *parameters)
        self.assertTrue(inspect.isgeneratorfunction(names))


if __name__ == "__main__":
    unittest.main()
