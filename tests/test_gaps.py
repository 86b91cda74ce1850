"""movecells/gaps.py: gaps, distances, and ways from places to cells [2], [32], [33]."""

import itertools
import unittest
from fractions import Fraction

from movecells import gaps as file
from movecells.errors import InvalidAxis, InvalidDistance, InvalidKind, InvalidMap, InvalidName, InvalidPlace
from movecells.gaps import are_near, distance, gap, has_near, way
from movecells.maps import Map
from movecells.names import children
from movecells.places import name_at
from movecells.plans import Plan
from movecells.ratios import Ratio
from tests import models
from tests.models import fraction, ratio, ratios
from tests.support import Checks, no_numbers, not_of, odd_values
from tests.test_names import wrong_names
from tests.test_places import wrong_places

SQUARES = Plan.squares(2)
AREA = Map(SQUARES, 8, 4, closed=["east"])
ROUND = Map(SQUARES, 8, 8, closed=["east", "north"])
KINDS = ("box", "sum")
SMALL = Ratio(1, 10 ** 58)


def wrong_kinds():
    return [value for value in odd_values() if not isinstance(value, str)] + ["", "Box", "boxsum", "east", 0, 1, ["box"]]


def wrong_distances():
    """Values that are no NUMBERS greater than 0."""
    return no_numbers() + [0, -1, Ratio(0), Ratio(-1, 3), -(10 ** 60)]


class TestGap(Checks, unittest.TestCase):
    def test_both_axes(self):
        for area in models.sample_maps(rounds=models.ROUNDS[:1], lengths=models.LENGTHS):
            for axis, length in zip(("east", "north"), models.lengths_of(area)):
                some = [length * Fraction(k, 12) for k in range(12)] + [length * Fraction(1, 10 ** 50)]
                for one, other in itertools.product(some, repeat=2):
                    self.is_ratio(gap(area, axis, ratio(one), ratio(other)), models.gap(area, axis, one, other))

    def test_integers_and_by_names(self):
        self.is_ratio(gap(AREA, "east", 1, 7), 2)
        self.is_ratio(gap(AREA, "north", 0, 3), 3)
        self.is_ratio(gap(other=Ratio(1, 2), one=7, axis="east", area=AREA), Fraction(3, 2))

    def test_just_half_of_a_closed_length(self):
        for one, other, told in (
            (0, 4, 4), (4, 0, 4), (1, 5, 4), (0, Ratio(81, 20), Fraction(79, 20)), (0, Ratio(79, 20), Fraction(79, 20)),
        ):
            self.is_ratio(gap(AREA, "east", one, other), told)
        self.is_ratio(gap(AREA, "east", 0, 8 - SMALL), fraction(SMALL))
        self.is_ratio(gap(AREA, "north", 0, 4 - SMALL), 4 - fraction(SMALL))

    def test_wrong_numbers(self):
        for area, axis in itertools.product((AREA, ROUND), ("east", "north")):
            right = {"area": area, "axis": axis, "one": 0, "other": 1}
            wrong = no_numbers() + [-1, -SMALL, area.length(axis), area.length(axis) + SMALL, 10 ** 60, (0, 0)]
            for name in ("one", "other"):
                self.fails_for_each(InvalidPlace, wrong, gap, right, name)
            for one, other in itertools.product(wrong, [-3, None]):
                self.fails(InvalidPlace, [one], gap, area, axis, one, other)
        self.fails(InvalidPlace, [4], gap, AREA, "north", 1, 4)
        self.is_ratio(gap(AREA, "east", 1, 4), 3)

    def test_wrong_arguments(self):
        right = {"area": AREA, "axis": "north", "one": 0, "other": 1}
        self.fails_for_each(InvalidMap, not_of(Map), gap, right, "area")
        wrong = [value for value in odd_values() if not isinstance(value, str)] + ["", "box", "North", 0, 1]
        self.fails_for_each(InvalidAxis, wrong, gap, right, "axis")
        self.fails_in_sequence(gap, right, {
            "area": (0, InvalidMap, [0]), "axis": ("n", InvalidAxis, ["n"]),
            "one": (4, InvalidPlace, [4]), "other": (True, InvalidPlace, [True]),
        })


class TestDistance(Checks, unittest.TestCase):
    def test_both_kinds(self):
        for area in models.sample_maps(rounds=models.ROUNDS[:2]):
            some = models.corners(area, 2)[::3]
            for place, other in itertools.product(some[::2], some):
                for kind in KINDS:
                    self.is_ratio(distance(area, kind, place, other), models.distance(area, kind, place, other))

    def test_examples(self):
        self.is_ratio(distance(AREA, "box", (7, 0), (1, 3)), 3)
        self.is_ratio(distance(AREA, "sum", (7, 0), (1, 3)), 5)
        self.is_ratio(distance(other=(1, 1), place=(1, 1), kind="sum", area=AREA), 0)

    def test_wrong_arguments(self):
        place, other = (8, 0), (0, 4)
        right = {"area": AREA, "kind": "box", "place": (1, 2), "other": (3, 3)}
        wrong = {
            "area": (None, InvalidMap, [None]), "kind": ("max", InvalidKind, ["max"]),
            "place": (place, InvalidPlace, [place]), "other": (other, InvalidPlace, [other]),
        }
        self.fails_in_sequence(distance, right, wrong)
        right["d"] = 1
        wrong["d"] = (0, InvalidDistance, [0])
        self.fails_in_sequence(are_near, right, wrong)
        for action, given in ((distance, {name: right[name] for name in list(right)[:4]}), (are_near, right)):
            self.fails_for_each(InvalidMap, not_of(Map), action, given, "area")
            self.fails_for_each(InvalidKind, wrong_kinds(), action, given, "kind")
            for name in ("place", "other"):
                self.fails_for_each(InvalidPlace, wrong_places(AREA), action, given, name)


class TestAreNear(Checks, unittest.TestCase):
    def test_just_at_the_distance(self):
        for area in models.sample_maps(rounds=models.ROUNDS[:1]):
            some = models.corners(area, 2)[::5]
            for place, other, kind in itertools.product(some[::2], some, KINDS):
                between = models.distance(area, kind, place, other)
                for d in (between, between + fraction(SMALL), between - fraction(SMALL), between / 2, between * 2, 1, 9):
                    if d > 0:
                        self.assertIs(are_near(area, kind, place, other, ratio(d)), between <= d)
        self.assertEqual([are_near(AREA, "sum", (7, 0), (1, 3), d) for d in (4, 5, 6)], [False, True, True])
        self.assertIs(are_near(d=3, other=(1, 3), place=(7, 0), kind="box", area=AREA), True)

    def test_wrong_distances(self):
        right = {"area": AREA, "kind": "box", "place": (1, 2), "other": (3, 3), "d": 1}
        self.fails_for_each(InvalidDistance, wrong_distances(), are_near, right, "d")


class TestWay(Checks, unittest.TestCase):
    def is_way(self, told, worth, is_had):
        self.assertIs(told.__class__, tuple)
        self.assertEqual(len(told), 2)
        self.is_ratio(told[0], worth)
        self.assertIs(told[1], is_had)

    def test_places_within_beside_and_far_from_cells(self):
        for area in models.sample_maps()[::2]:
            for f in (1, 2):
                for name in models.some(models.all_names(area.plan, f), 9):
                    for place in models.corners(area, f)[::3]:
                        for kind in KINDS:
                            self.is_way(way(area, kind, place, name), *models.way(area, kind, place, name))

    def test_points_of_the_cell(self):
        """No place of a fine grid in the cell is nearer, some are as near as one likes, and one just so if it is had."""
        steps = [Fraction(k, 12) for k in range(12)] + [Fraction(1, 10 ** 9), 1 - Fraction(1, 10 ** 9)]
        for closed in models.CLOSED:
            area = models.map_of(models.ROUNDS[0], (8, 6), closed)
            places = [ratios(pair) for pair in itertools.product((0, 1, 2, 4, Fraction(15, 2)), (0, 1, 3, Fraction(9, 2)))]
            for name in [(), (0,), (3,), (0, 3), (3, 0), (2, 2), (1, 1)]:
                ends = models.borders(area, name)
                inner = [[lower + (upper - lower) * part for part in steps] for lower, upper in ends]
                for place, kind in itertools.product(places, KINDS):
                    grid = [
                        [number for number in numbers] + [fraction(one) for one in [own] if lower <= fraction(own) < upper]
                        for numbers, own, (lower, upper) in zip(inner, place, ends)
                    ]
                    told, is_had = way(area, kind, place, name)
                    found = min(models.distance(area, kind, place, other) for other in itertools.product(*grid))
                    self.assertLess(abs(found - fraction(told)), Fraction(1, 10 ** 7))
                    self.assertGreaterEqual(found, fraction(told))
                    self.assertIs(is_had, found == fraction(told))

    def test_from_each_side_and_corner(self):
        name = name_at(ROUND, (2, 2), 2)
        for place, box, whole in (
            ((2, 2), (0, True), (0, True)), ((3, 3), (0, True), (0, True)), ((Ratio(7, 2), 2), (0, True), (0, True)),
            ((1, 2), (1, True), (1, True)), ((2, 1), (1, True), (1, True)), ((1, 1), (1, True), (2, True)),
            ((4, 2), (0, False), (0, False)), ((2, 4), (0, False), (0, False)), ((4, 4), (0, False), (0, False)),
            ((5, 3), (1, False), (1, False)), ((3, 5), (1, False), (1, False)), ((5, 5), (1, False), (2, False)),
            ((1, 5), (1, False), (2, False)), ((1, Ratio(9, 2)), (1, True), (Fraction(3, 2), False)),
            ((Ratio(1, 2), 5), (Fraction(3, 2), True), (Fraction(5, 2), False)),
            ((0, 7), (3, True), (5, True)), ((7, 7), (3, True), (6, True)), ((7, 3), (3, True), (3, True)),
            ((Ratio(13, 2), 3), (Fraction(5, 2), False), (Fraction(5, 2), False)),
            ((0, 5), (2, True), (3, False)), ((5, 0), (2, True), (3, False)),
        ):
            self.is_way(way(ROUND, "box", place, name), *box)
            self.is_way(way(ROUND, "sum", place, name), *whole)

    def test_across_the_end_of_a_closed_axis(self):
        last, first = name_at(ROUND, (7, 0), 2), name_at(ROUND, (0, 0), 2)
        self.is_way(way(ROUND, "box", (0, 0), last), 0, False)
        self.is_way(way(ROUND, "box", (1, 0), last), 1, False)
        self.is_way(way(ROUND, "box", (5, 0), last), 1, True)
        self.is_way(way(ROUND, "box", (7, 1), first), 1, True)
        self.is_way(way(ROUND, "box", (8 - SMALL, 1), first), fraction(SMALL), True)
        self.is_way(way(Map(SQUARES, 8, 8), "box", (0, 0), last), 6, True)
        self.is_way(way(Map(SQUARES, 8, 8), "box", (7, 1), first), 5, False)

    def test_both_ways_around_are_equal(self):
        self.is_way(way(ROUND, "box", (0, 0), name_at(ROUND, (3, 0), 3)), 3, True)
        self.is_way(way(ROUND, "box", (Ratio(15, 2), 0), name_at(ROUND, (3, 0), 3)), Fraction(7, 2), True)
        self.is_way(way(ROUND, "box", (Ratio(15, 2) - SMALL, 0), name_at(ROUND, (3, 0), 3)), Fraction(7, 2) - fraction(SMALL), False)
        self.is_way(way(ROUND, "sum", (5, 0), name_at(ROUND, (0, 0), 2)), 3, True)
        self.is_way(way(ROUND, "sum", (5 - SMALL, 0), name_at(ROUND, (0, 0), 2)), 3 - fraction(SMALL), False)

    def test_cells_that_fill_a_whole_closed_axis(self):
        slices = Map(Plan([("north", 2)], [("east", 2)]), 8, 8, closed=["east", "north"])
        for place in ((0, 0), (7, 0), (8 - SMALL, 1)):
            self.is_way(way(slices, "box", place, (0,)), 0, True)
            self.is_way(way(slices, "box", place, (1,)), min(4 - fraction(place[1]), fraction(place[1])), place[1] == 4)
            self.is_way(way(slices, "sum", place, ()), 0, True)

    def test_the_empty_name(self):
        for area in models.sample_maps()[::3]:
            for place, kind in itertools.product(models.corners(area, 1)[::5], KINDS):
                self.is_way(way(area, kind, place, ()), 0, True)
                self.assertIs(has_near(area, kind, place, (), SMALL), True)

    def test_an_example_and_by_names(self):
        self.is_way(way(AREA, "box", (1, 1), (2,)), 1, False)
        self.is_way(way(name=(2,), kind="sum", place=(1, 3), area=AREA), 2, False)

    def test_long_names(self):
        name = name_at(AREA, (7, 1), 1000)
        self.is_way(way(AREA, "box", (7, 1), name), 0, True)
        self.is_way(way(AREA, "box", (6, 1), name), 1, True)
        child = children(AREA.plan, name)[3]
        self.is_way(way(AREA, "box", (6, 1), child), 1 + Fraction(8, 2 ** 1001), True)
        self.assertIs(has_near(AREA, "box", (6, 1), child, 1), False)


class TestHasNear(Checks, unittest.TestCase):
    def test_just_at_the_way(self):
        for area in models.sample_maps(lengths=models.LENGTHS[:1])[::3]:
            for name in models.some(models.all_names(area.plan, 2), 6):
                for place, kind in itertools.product(models.corners(area, 2)[::5], KINDS):
                    worth, is_had = models.way(area, kind, place, name)
                    for d in (worth, worth + fraction(SMALL), worth - fraction(SMALL), worth / 2, worth + 1, Fraction(1)):
                        if d > 0:
                            told = has_near(area, kind, place, name, ratio(d))
                            self.assertIs(told, worth < d or (worth == d and is_had))
        self.assertIs(has_near(d=1, name=(2,), place=(3, 0), kind="box", area=AREA), True)
        self.assertIs(has_near(AREA, "box", (1, 1), (2,), 1), False)
        self.assertIs(has_near(AREA, "box", (1, 1), (2,), Ratio(101, 100)), True)

    def test_wrong_arguments(self):
        place, name = (-1, 0), (0, 7)
        right = {"area": AREA, "kind": "box", "place": (1, 2), "name": (3, 3)}
        wrong = {
            "area": (None, InvalidMap, [None]), "kind": ("max", InvalidKind, ["max"]),
            "place": (place, InvalidPlace, [place]), "name": (name, InvalidName, [name]),
        }
        self.fails_in_sequence(way, right, wrong)
        with_d = {**right, "d": Ratio(1, 2)}
        self.fails_in_sequence(has_near, with_d, {**wrong, "d": (-1, InvalidDistance, [-1])})
        self.fails_for_each(InvalidDistance, wrong_distances(), has_near, with_d, "d")
        for action, given in ((way, right), (has_near, with_d)):
            self.fails_for_each(InvalidMap, not_of(Map), action, given, "area")
            self.fails_for_each(InvalidKind, wrong_kinds(), action, given, "kind")
            self.fails_for_each(InvalidPlace, wrong_places(AREA), action, given, "place")
            self.fails_for_each(InvalidName, wrong_names(AREA.plan), action, given, "name")


class TestFile(Checks, unittest.TestCase):
    def test_everything_listed_is_defined_here(self):
        for name, parameters in (
            ("gap", ["area", "axis", "one", "other"]), ("distance", ["area", "kind", "place", "other"]),
            ("are_near", ["area", "kind", "place", "other", "d"]), ("way", ["area", "kind", "place", "name"]),
            ("has_near", ["area", "kind", "place", "name", "d"]),
        ):
            self.assertEqual(getattr(file, name).__module__, "movecells.gaps")
            self.has_parameters(getattr(file, name), *parameters)


if __name__ == "__main__":
    unittest.main()
