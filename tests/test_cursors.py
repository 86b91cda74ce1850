"""movecells/names.py: Cursor, a name that can be changed [2], [21]."""

import unittest

from movecells.errors import InvalidName, InvalidNumber, InvalidPlan, InvalidSign
from movecells.names import Cursor, cell, name_of
from movecells.plans import Plan
from tests import models
from tests.support import Alike, Checks, Row, Whole, no_counts_below, not_of, odd_values
from tests.test_names import PLANS, great_names, wrong_names

SQUARES = Plan.squares(2)
MIXED = Plan([("east", 2), ("north", 2)], [("east", 3), ("north", 3)])


def added(cursor, sign):
    cursor += sign
    return cursor


def cut(cursor, many):
    cursor -= many
    return cursor


class CursorCase(Checks, unittest.TestCase):
    def holds(self, cursor, name):
        """The cursor has this name, and tells nothing else."""
        self.is_name(cursor.name, name)
        self.is_integer(len(cursor), len(name))
        self.is_pair(cursor.pair, cell(cursor.plan, name))
        self.assertEqual([cursor[at] for at in range(len(name))], list(name))


class TestConstructor(CursorCase):
    def test_with_and_without_a_name(self):
        for plan in PLANS:
            self.holds(Cursor(plan), ())
            self.holds(Cursor(plan, ()), ())
            for name in models.all_names(plan, 2)[:30] + great_names(plan):
                cursor = Cursor(plan, name)
                self.holds(cursor, name)
                self.assertEqual(cursor.plan, plan)
        self.holds(Cursor(name=(1, 8), plan=MIXED), (1, 8))
        self.has_parameters(Cursor, "plan", "name")

    def test_what_is_told_is_plain(self):
        cursor = Cursor(MIXED, Row((Whole(1), 8)))
        self.assertIs(cursor.name.__class__, tuple)
        cursor.name = Row((2,))
        self.assertIs(cursor.name.__class__, tuple)
        cursor.put(Row((3, 7)))
        self.assertIs(cursor.name.__class__, tuple)
        self.is_pair(cursor.pair, cell(MIXED, (3, 7)))

    def test_wrong_arguments(self):
        right = {"plan": SQUARES, "name": (1, 2)}
        self.fails_for_each(InvalidPlan, not_of(Plan), Cursor, right, "plan")
        self.fails_for_each(InvalidName, wrong_names(SQUARES), Cursor, right, "name")
        self.fails_in_sequence(Cursor, right, {"plan": (0, InvalidPlan, [0]), "name": ("", InvalidName, [""])})

    def test_everything_listed_stands_in_the_class(self):
        methods = "__init__ put __len__ __getitem__ __setitem__ __iadd__ __isub__ copy __eq__".split()
        self.stands_in_class(Cursor, "movecells.names", methods=methods, properties=("plan", "name", "pair"))
        cursor = Cursor(SQUARES, (1,))
        for name in ("plan", "pair"):
            with self.assertRaises(AttributeError):
                setattr(cursor, name, ())
        self.holds(cursor, (1,))
        self.has_parameters(cursor.put, "name")
        self.has_parameters(cursor.copy)

    def test_a_cursor_is_not_iterated_over(self):
        self.assertRaises(TypeError, iter, Cursor(SQUARES, (1,)))


class TestChanges(CursorCase):
    def test_assignment_and_put(self):
        for plan in PLANS:
            cursor, other = Cursor(plan), Cursor(plan)
            for name in models.all_names(plan, 1)[:5] + great_names(plan) + [()]:
                cursor.name = name
                other.put(name)
                self.holds(cursor, name)
                self.holds(other, name)
        cursor = Cursor(SQUARES)
        self.assertIsNone(cursor.put(name=(3,)))
        self.holds(cursor, (3,))

    def test_wrong_names(self):
        for plan in PLANS:
            cursor = Cursor(plan, (0, 1))
            for value in wrong_names(plan):
                self.fails(InvalidName, [value], cursor.put, value)
                self.fails(InvalidName, [value], setattr, cursor, "name", value)
            self.holds(cursor, (0, 1))

    def test_signs_at_positions(self):
        for plan in PLANS:
            name = (0,) * 7
            cursor = Cursor(plan, name)
            for at in (3, 0, 6, 1, 2, 5, 4):
                for sign in range(models.signs_of(models.round_at(plan, at))):
                    cursor[at] = sign
                    name = name[:at] + (sign,) + name[at + 1:]
                    self.holds(cursor, name)

    def test_wrong_positions(self):
        for name in ((), (1,), (1, 8, 0)):
            cursor = Cursor(MIXED, name)
            for at in no_counts_below(len(name)) + [slice(0, 1), (0,)]:
                self.fails(InvalidNumber, [at], lambda: cursor[at])
                for sign in (0, 99, True):
                    self.fails(InvalidNumber, [at], cursor.__setitem__, at, sign)
            self.holds(cursor, name)

    def test_wrong_signs(self):
        for plan in PLANS:
            name = (0,) * 5
            cursor = Cursor(plan, name)
            for at in range(5):
                for sign in no_counts_below(models.signs_of(models.round_at(plan, at))):
                    self.fails(InvalidSign, [sign], cursor.__setitem__, at, sign)
                    self.fails(InvalidSign, [sign], added, Cursor(plan, (0,) * at), sign)
            self.holds(cursor, name)

    def test_signs_more(self):
        for plan in PLANS:
            cursor, name = Cursor(plan), ()
            same = cursor
            for at in range(60):
                sign = at * 5 % models.signs_of(models.round_at(plan, at))
                cursor += sign
                name = name + (sign,)
                self.assertIs(cursor, same)
                self.holds(cursor, name)

    def test_wrong_signs_more_change_nothing(self):
        cursor = Cursor(MIXED, (3,))
        for sign in no_counts_below(9):
            self.fails(InvalidSign, [sign], added, cursor, sign)
        self.holds(cursor, (3,))
        cursor += 8
        for sign in no_counts_below(4):
            self.fails(InvalidSign, [sign], added, cursor, sign)
        self.holds(cursor, (3, 8))

    def test_beyond_a_thousand_signs(self):
        columns, rows = SQUARES.counts(1000)
        cursor = Cursor(SQUARES, name_of(SQUARES, 1000, (columns - 1, 0)))
        cursor += 1
        self.is_integer(len(cursor), 1001)
        self.is_pair(cursor.pair, (2 * (columns - 1), 1))
        cursor[1000] = 2
        self.is_pair(cursor.pair, (2 * columns - 1, 0))
        self.assertEqual(cursor, Cursor(SQUARES, cursor.name))

    def test_signs_fewer(self):
        name = (3, 8, 0, 5, 2)
        for many in range(6):
            cursor = same = Cursor(MIXED, name)
            cursor -= many
            self.assertIs(cursor, same)
            self.holds(cursor, name[:5 - many])

    def test_wrong_numbers_fewer_change_nothing(self):
        for name in ((), (3,), (3, 8, 0, 5, 2)):
            cursor = Cursor(MIXED, name)
            for many in no_counts_below(len(name) + 1):
                self.fails(InvalidNumber, [many], cut, cursor, many)
            self.holds(cursor, name)

    def test_one_change_behind_another(self):
        cursor = Cursor(MIXED)
        cursor += 3
        cursor += 8
        cursor[0] = 1
        cursor -= 1
        cursor += 7
        self.holds(cursor, (1, 7))
        cursor.name = (2,)
        cursor -= 0
        cursor += 0
        self.holds(cursor, (2, 0))

    def test_a_told_name_stays_as_it_was(self):
        cursor = Cursor(MIXED, (3, 8))
        told = cursor.name
        cursor[0] = 0
        cursor += 1
        cursor -= 3
        cursor.put((2,))
        self.assertEqual(told, (3, 8))


class TestCopies(CursorCase):
    def test_a_copy_goes_its_own_way(self):
        cursor = Cursor(MIXED, (3, 8))
        other = cursor.copy()
        self.assertIs(other.__class__, Cursor)
        self.assertEqual(other.plan, MIXED)
        cursor[1] = 0
        other += 2
        self.holds(cursor, (3, 0))
        self.holds(other, (3, 8, 2))
        cursor -= 2
        self.holds(other, (3, 8, 2))

    def test_equal(self):
        some = [(Cursor(plan, name), plan, name) for plan in PLANS for name in [(), (0,), (1,), (0, 0), (1, 0)]]
        for one, plan, name in some:
            for other, other_plan, other_name in some:
                self.assertIs(one == other, plan == other_plan and name == other_name)
                self.assertIs(one != other, plan != other_plan or name != other_name)
            self.assertIs(one == one.copy(), True)
            for value in odd_values() + [name, 0]:
                self.assertIs(one == value, False)
                if not isinstance(value, Alike):
                    self.assertIs(value == one, False)

    def test_equal_behind_changes(self):
        one, other = Cursor(MIXED, (3,)), Cursor(MIXED)
        other += 3
        self.assertEqual(one, other)
        other += 8
        self.assertNotEqual(one, other)


if __name__ == "__main__":
    unittest.main()
