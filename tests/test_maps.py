"""movecells/maps.py: maps, their lengths, sides and closed axes [2], [14]."""

import itertools
import unittest
from fractions import Fraction

from movecells.errors import InvalidAxis, InvalidClosed, InvalidLength, InvalidMap, InvalidNumber, InvalidPlan, TooMany
from movecells.maps import Map
from movecells.plans import Plan
from movecells.ratios import Ratio
from tests import models
from tests.models import fraction, ratio
from tests.support import Alike, Checks, Whole, Word, no_counts, no_numbers, not_of, odd_values

GREAT = 10 ** 59 + 7
SQUARES = Plan.squares(2)
MIXED = Plan([("east", 2), ("north", 3)], [("east", 3), ("north", 2)])


def wrong_numbers():
    """Values that are no NUMBERS greater than 0."""
    return no_numbers() + [0, -1, -GREAT, Ratio(0), Ratio(-1, 2), Ratio(-GREAT, 3)]


class TestConstructor(Checks, unittest.TestCase):
    def test_integers_and_ratios_as_lengths(self):
        for east, north in itertools.product([1, 8, GREAT, Fraction(1, 2), Fraction(GREAT, GREAT + 1)], repeat=2):
            area = Map(SQUARES, ratio(east), ratio(north))
            self.is_ratio(area.east, Fraction(east))
            self.is_ratio(area.north, Fraction(north))
        area = Map(SQUARES, 8, GREAT)
        self.are_ratios((area.east, area.north), (8, GREAT))

    def test_lengths_that_are_not_in_lowest_terms(self):
        area = Map(SQUARES, Ratio(6, 4), Ratio(-8, -4))
        self.are_ratios((area.east, area.north), (Fraction(3, 2), 2))
        self.assertEqual(area, Map(SQUARES, Ratio(3, 2), 2))

    def test_closed_axes(self):
        for made in (list, tuple):
            for axes in ([], ["east"], ["north"], ["east", "north"], ["north", "east"]):
                area = Map(SQUARES, 8, 4, closed=made(axes))
                self.assertIs(area.closed.__class__, tuple)
                self.assertEqual(area.closed, tuple(sorted(axes)))
        self.assertEqual(Map(SQUARES, 8, 4).closed, ())

    def test_what_is_told_is_plain(self):
        area = Map(SQUARES, Whole(8), 4, closed=[Word("north")])
        self.assertEqual([area.closed.__class__, area.closed[0].__class__], [tuple, str])
        self.is_ratio(area.east, Fraction(8))
        self.assertEqual(repr(area), repr(Map(SQUARES, 8, 4, closed=["north"])))

    def test_the_plan_is_kept(self):
        for plan in (SQUARES, MIXED, Plan.codes()):
            self.assertEqual(Map(plan, 1, 1).plan, plan)
            self.assertIs(Map(plan, 1, 1).plan.__class__, Plan)

    def test_by_names(self):
        area = Map(north=Ratio(1, 2), plan=MIXED, closed=["north"], east=3)
        self.assertEqual((area.plan, area.closed), (MIXED, ("north",)))
        self.are_ratios((area.east, area.north), (3, Fraction(1, 2)))
        self.has_parameters(Map, "plan", "east", "north", "closed")
        with self.assertRaises(TypeError):
            Map(SQUARES, 8, 4, ["east"])

    def test_wrong_plans(self):
        right = {"plan": SQUARES, "east": 8, "north": 4}
        self.fails_for_each(InvalidPlan, not_of(Plan) + [Map(SQUARES, 8, 4), [[("east", 2)]]], Map, right, "plan")

    def test_wrong_lengths(self):
        right = {"plan": SQUARES, "east": 8, "north": 4}
        for name in ("east", "north"):
            self.fails_for_each(InvalidLength, wrong_numbers(), Map, right, name)
        for one, other in itertools.product(wrong_numbers(), [0, True, "8"]):
            self.fails(InvalidLength, [one], Map, SQUARES, one, other)

    def test_wrong_closed_axes(self):
        values = [value for value in odd_values() if value != () and value != []]
        values = values + [0, 1, Ratio(1), "north", {"east": True}, {"east"}, ["east", "east"], ("north", "north")]
        values = values + [["east", "north", "east"], ["west"], ["East"], [["east"]], [("east",)], [True], [None, "east"]]
        values = values + [["east", value] for value in odd_values() if not isinstance(value, str)] + [iter(["east"])]
        for value in values + [[Alike()], ["east", "north", None]]:
            self.fails(InvalidClosed, [value], Map, SQUARES, 8, 4, closed=value)

    def test_several_errors_at_once(self):
        wrong = {
            "plan": (None, InvalidPlan, [None]),
            "east": (0, InvalidLength, [0]),
            "north": (True, InvalidLength, [True]),
            "closed": ("east", InvalidClosed, ["east"]),
        }
        for many in range(1, 5):
            for names in itertools.combinations(wrong, many):
                given = {"plan": SQUARES, "east": 8, "north": 4, "closed": ["east"]}
                given.update({name: wrong[name][0] for name in names})
                self.fails(wrong[names[0]][1], wrong[names[0]][2], Map, **given)

    def test_passed_lists_stay_and_are_copied(self):
        closed = ["north", "east"]
        area = Map(SQUARES, 8, 4, closed=closed)
        self.assertEqual(closed, ["north", "east"])
        closed.clear()
        self.assertEqual(area.closed, ("east", "north"))

    def test_everything_listed_stands_in_the_class(self):
        methods = "is_closed length sides turned __init__ __mul__ __rmul__ __eq__ __repr__".split()
        self.stands_in_class(Map, "movecells.maps", methods=methods, properties=("plan", "east", "north", "closed"))
        for name in ("plan", "east", "north", "closed"):
            with self.assertRaises(AttributeError):
                setattr(Map(SQUARES, 8, 4), name, 1)


class TestTold(Checks, unittest.TestCase):
    def test_is_closed_and_length(self):
        for area in models.sample_maps(lengths=models.LENGTHS):
            self.assertIs(area.is_closed("east"), "east" in area.closed)
            self.assertIs(area.is_closed(axis="north"), "north" in area.closed)
            self.is_ratio(area.length("east"), fraction(area.east))
            self.is_ratio(area.length(axis="north"), fraction(area.north))
        area = Map(SQUARES, Ratio(7, 3), 5)
        self.are_ratios((area.length("east"), area.length("north")), (Fraction(7, 3), 5))

    def test_wrong_axes(self):
        area = Map(SQUARES, 8, 4, closed=["east"])
        values = [value for value in odd_values() if value != "east"] + [0, 1, Ratio(1), "West", "west", "eastnorth", ["east"]]
        for action in (area.is_closed, area.length):
            self.fails_for_each(InvalidAxis, values, action, {}, "axis")

    def test_sides(self):
        for area in models.sample_maps(lengths=models.LENGTHS):
            for f in (0, 1, 2, 3, 4, 5, 7, 30):
                self.are_ratios(area.sides(f), models.sides(area, f))
        self.are_ratios(Map(SQUARES, 8, 4).sides(f=2), (2, 1))
        self.are_ratios(Map(MIXED, 6, 6).sides(1), (3, 2))

    def test_sides_of_great_finenesses(self):
        self.are_ratios(Map(SQUARES, 8, 4).sides(1000), (Fraction(8, 2 ** 1000), Fraction(4, 2 ** 1000)))
        self.are_ratios(Map(Plan.codes(), 1, 1).sides(999), (Fraction(1, 8 * 32 ** 499), Fraction(1, 4 * 32 ** 499)))
        for area in models.sample_maps():
            self.are_ratios(area.sides(1000), models.sides(area, 1000))

    def test_the_fact_of_sides(self):
        for area in models.sample_maps():
            for f in range(5):
                behind = [fraction(side) / area.plan.growth for side in area.sides(f)]
                self.are_ratios(area.sides(f + len(area.plan)), behind)

    def test_wrong_finenesses(self):
        area = Map(SQUARES, 8, 4)
        self.fails_for_each(InvalidNumber, no_counts(), area.sides, {}, "f")
        for f in (1001, 1002, 10 ** 60):
            self.fails(TooMany, ["signs", 1000], area.sides, f)

    def test_parameters(self):
        area = Map(SQUARES, 8, 4)
        self.has_parameters(area.is_closed, "axis")
        self.has_parameters(area.length, "axis")
        self.has_parameters(area.sides, "f")
        self.has_parameters(area.turned)


class TestMultiplied(Checks, unittest.TestCase):
    def test_on_both_sides(self):
        for area in models.sample_maps():
            before = repr(area)
            for number in (1, 3, GREAT, Ratio(1, 2), Ratio(GREAT, 3), Ratio(5)):
                self.check_product(area * number, area, number)
            for number in (1, 3, GREAT):
                self.check_product(number * area, area, number)
            self.assertEqual(repr(area), before)

    def check_product(self, told, area, number):
        self.assertIs(told.__class__, Map)
        self.are_ratios((told.east, told.north), [length * fraction(number) for length in models.lengths_of(area)])
        self.assertEqual((told.plan, told.closed), (area.plan, area.closed))

    def test_wrong_numbers(self):
        area = Map(SQUARES, 8, 4, closed=["east"])
        for value in wrong_numbers() + [area]:
            self.fails(InvalidLength, [value], lambda: area * value)
        for value in (0, -1, -GREAT):
            self.fails(InvalidLength, [value], lambda: value * area)
        for value in (True, False):
            self.assertRaises((InvalidLength, TypeError), lambda: value * area)
        self.assertEqual(area, Map(SQUARES, 8, 4, closed=["east"]))


class TestTurned(Checks, unittest.TestCase):
    def test_once_and_twice(self):
        other = {"east": "north", "north": "east"}
        for area in models.sample_maps(lengths=models.LENGTHS):
            turned = area.turned()
            self.assertIs(turned.__class__, Map)
            self.assertEqual(turned.plan, area.plan.turned())
            self.are_ratios((turned.east, turned.north), models.lengths_of(area)[::-1])
            self.assertEqual(turned.closed, tuple(sorted(other[axis] for axis in area.closed)))
            self.assertEqual(turned.turned(), area)
            self.are_ratios(turned.sides(3), models.sides(area, 3)[::-1])


class TestEqual(Checks, unittest.TestCase):
    def test_maps_that_differ_in_one_thing(self):
        maps = [
            Map(SQUARES, 8, 4), Map(Plan.squares(4), 8, 4), Map(SQUARES, 7, 4), Map(SQUARES, 8, 5), Map(SQUARES, 4, 8),
            Map(SQUARES, 8, 4, closed=["east"]), Map(SQUARES, 8, 4, closed=["north"]),
            Map(SQUARES, 8, 4, closed=["east", "north"]), Map(Plan([("north", 2), ("east", 2)]), 8, 4),
        ]
        for at, area in enumerate(maps):
            for position, other in enumerate(maps):
                self.assertIs(area == other, at == position)
                self.assertIs(area != other, at != position)

    def test_equal_maps(self):
        one = Map(Plan.squares(2), Ratio(16, 2), 4, closed=["north", "east"])
        other = Map(Plan([("east", 2), ("north", 2)]), 8, Ratio(4), closed=("east", "north"))
        self.assertIs(one == other, True)
        self.assertIs(one != other, False)

    def test_other_kinds(self):
        area = Map(SQUARES, 8, 4)
        for value in odd_values() + [0, Ratio(8), (SQUARES, 8, 4, ()), repr(area)]:
            self.assertIs(area == value, False)
            self.assertIs(area != value, True)


class TestRepr(Checks, unittest.TestCase):
    def test_repr(self):
        plan = "Plan([('east', 2), ('north', 2)])"
        self.assertEqual(repr(Map(SQUARES, 3, 2, closed=["east"])),
                         f"Map({plan}, Ratio(3, 1), Ratio(2, 1), closed=('east',))")
        self.assertEqual(repr(Map(SQUARES, Ratio(2, 4), 2)), f"Map({plan}, Ratio(1, 2), Ratio(2, 1), closed=())")
        self.assertEqual(repr(Map(SQUARES, 1, 1, closed=["north", "east"])),
                         f"Map({plan}, Ratio(1, 1), Ratio(1, 1), closed=('east', 'north'))")
        for area in models.sample_maps(lengths=models.LENGTHS):
            self.assertEqual(eval(repr(area), {"Map": Map, "Plan": Plan, "Ratio": Ratio}), area)


class TestAreas(Checks, unittest.TestCase):
    def test_no_map_is_another_kind(self):
        from movecells.maps import check_area
        check_area(Map(SQUARES, 8, 4))
        for value in not_of(Map):
            self.fails(InvalidMap, [value], check_area, value)


if __name__ == "__main__":
    unittest.main()
