"""movecells/places.py: places, the cells in which they lie, and their next signs [2], [4], [31], [53]."""

import itertools
import unittest
from fractions import Fraction

from movecells import places as file
from movecells.errors import InvalidMap, InvalidName, InvalidNumber, InvalidPlace, TooMany
from movecells.maps import Map
from movecells.names import children, name_of
from movecells.places import extent, gone_round, is_in, is_place, name_at, next_sign
from movecells.plans import Plan
from movecells.ratios import Ratio
from tests import models
from tests.models import fraction, ratio, ratios
from tests.support import Alike, Checks, no_counts, no_numbers, not_of
from tests.test_names import wrong_names

AREA = Map(Plan.squares(2), 8, 4, closed=["east"])
LONG = 10 ** 58


def wrong_places(area):
    """Values that are no places of the map."""
    wrong = no_numbers() + [-1, Ratio(-1, LONG), Ratio(-LONG, 3)]
    found = [(value, 0) for value in wrong + [area.east, area.east + 1, LONG * LONG]]
    found = found + [(Ratio(0), value) for value in wrong + [area.north, area.north + Ratio(1, LONG), LONG * LONG]]
    found = found + [value for value in wrong if not isinstance(value, tuple)] + [(), (0,), (0, 0, 0), ((0, 0),), ((0, 0), 0)]
    return found + [[0, 0], [Ratio(0), Ratio(0)], 0, Ratio(0), "00", {0: 0}, (True, 0), (0, False), (Alike(), 0), Alike()]


class TestIsPlace(Checks, unittest.TestCase):
    def test_right_places(self):
        for area in models.sample_maps():
            for place in models.corners(area, 2):
                self.assertIs(is_place(area, place), True)
            self.assertIs(is_place(area, (0, 0)), True)
            self.assertIs(is_place(area, (Ratio(0), 1)), True)
        self.assertIs(is_place(area=AREA, value=(7, 3)), True)

    def test_close_to_the_length(self):
        close = Ratio(1, LONG)
        for area in models.sample_maps():
            for east, north, told in (
                (area.east - close, area.north - close, True), (area.east, 0, False), (0, area.north, False),
                (area.east + close, 0, False), (0, area.north + close, False), (-close, 0, False), (0, -close, False),
                (close, close, True),
            ):
                self.assertIs(is_place(area, (east, north)), told)
        self.assertEqual([is_place(AREA, place) for place in ((7, 4), (8, 3), (7, 3))], [False, False, True])

    def test_wrong_places(self):
        for area in models.sample_maps()[::5]:
            for value in wrong_places(area):
                self.assertIs(is_place(area, value), False)

    def test_wrong_maps(self):
        self.fails_for_each(InvalidMap, not_of(Map), is_place, {"area": None, "value": None}, "area")


class TestNameAt(Checks, unittest.TestCase):
    def test_small_finenesses(self):
        for area in models.sample_maps():
            for place in models.corners(area, 2) + models.corners(area, 3)[::3]:
                for f in range(5):
                    self.is_name(name_at(area, place, f), models.name_at(area, place, f))

    def test_integers_as_places(self):
        self.is_name(name_at(AREA, (7, 1), 2), (2, 3))
        self.is_name(name_at(f=2, place=(Ratio(7), Ratio(1)), area=AREA), (2, 3))

    def test_borders_belong_to_the_cell_behind_them(self):
        for area in models.sample_maps():
            for f in (1, 2, 3):
                for name in models.some(models.all_names(area.plan, f), 25):
                    (west, east), (south, north) = models.borders(area, name)
                    self.is_name(name_at(area, ratios((west, south)), f), name)
                    close = (east - Fraction(1, LONG), north - Fraction(1, LONG))
                    self.is_name(name_at(area, ratios(close), f), name)

    def test_great_finenesses(self):
        for area in models.sample_maps()[::3]:
            for place in models.corners(area, 1)[::9]:
                for f in (48, 999, 1000):
                    columns, rows = models.counts(area.plan, f)
                    east, north = models.lengths_of(area)
                    pair = (fraction(place[0]) * columns // east, fraction(place[1]) * rows // north)
                    self.is_name(name_at(area, place, f), name_of(area.plan, f, (int(pair[0]), int(pair[1]))))
        self.is_name(name_at(AREA, (0, 0), 1000), (0,) * 1000)
        self.is_name(name_at(AREA, (Ratio(8 * LONG - 1, LONG), 0), 20), (2,) * 20)

    def test_each_name_begins_the_finer_one(self):
        for area in models.sample_maps()[::3]:
            for place in models.corners(area, 2)[::11]:
                finest = name_at(area, place, 40)
                for f in range(41):
                    self.is_name(name_at(area, place, f), finest[:f])

    def test_wrong_arguments(self):
        place = (8, 0)
        right = {"area": AREA, "place": (1, 2), "f": 3}
        self.fails_for_each(InvalidMap, not_of(Map), name_at, right, "area")
        self.fails_for_each(InvalidPlace, wrong_places(AREA), name_at, right, "place")
        self.fails_for_each(InvalidNumber, no_counts(), name_at, right, "f")
        for f, error, values in ((1001, TooMany, ["signs", 1000]), (True, InvalidNumber, [True])):
            self.fails_in_sequence(name_at, right, {
                "area": (0, InvalidMap, [0]), "place": (place, InvalidPlace, [place]), "f": (f, error, values),
            })
            self.fails_in_sequence(next_sign, right, {
                "area": (0, InvalidMap, [0]), "place": (place, InvalidPlace, [place]), "f": (f, error, values),
            })


class TestExtent(Checks, unittest.TestCase):
    def test_small_names(self):
        for area in models.sample_maps(lengths=models.LENGTHS):
            for f in range(3):
                for name in models.all_names(area.plan, f)[::5]:
                    told = extent(area, name)
                    self.assertIs(told.__class__, tuple)
                    self.assertEqual(len(told), 2)
                    for one, other in zip(told, models.borders(area, name)):
                        self.are_ratios(one, other)

    def test_an_example(self):
        east, north = extent(name=(2, 1), area=AREA)
        self.are_ratios(east, (4, 6))
        self.are_ratios(north, (1, 2))

    def test_long_names(self):
        for area in models.sample_maps()[::3]:
            name = name_at(area, (0, 0), 1000)
            for long in (name, children(area.plan, name)[0]):
                east, north = extent(area, long)
                columns, rows = models.counts(area.plan, len(long))
                self.are_ratios(east, (0, models.lengths_of(area)[0] / columns))
                self.are_ratios(north, (0, models.lengths_of(area)[1] / rows))

    def test_wrong_arguments(self):
        right = {"area": AREA, "name": (1, 2)}
        self.fails_for_each(InvalidName, wrong_names(AREA.plan), extent, right, "name")
        self.fails_in_sequence(extent, right, {"area": (AREA.plan, InvalidMap, [AREA.plan]), "name": (1, InvalidName, [1])})


class TestIsIn(Checks, unittest.TestCase):
    def test_the_own_cell_and_others(self):
        for area in models.sample_maps()[::2]:
            for place in models.corners(area, 2)[::5]:
                for f in range(3):
                    own = models.name_at(area, place, f)
                    for name in models.all_names(area.plan, f)[::3] + [own]:
                        self.assertIs(is_in(area, place, name), name == own)

    def test_exactly_if_it_is_within_the_extent(self):
        for area in models.sample_maps(lengths=models.LENGTHS[1:2])[::3]:
            for place in models.corners(area, 1)[::3]:
                for name in models.some(models.all_names(area.plan, 2), 25):
                    ends = zip(models.borders(area, name), place)
                    told = all(lower <= fraction(number) < upper for (lower, upper), number in ends)
                    self.assertIs(is_in(area, place, name), told)

    def test_long_names(self):
        name = name_at(AREA, (7, 1), 1000)
        self.assertIs(is_in(AREA, (7, 1), name), True)
        self.assertEqual([is_in(AREA, (7, 1), child) for child in children(AREA.plan, name)], [True] + [False] * 3)
        self.assertIs(is_in(AREA, (7, 1), name[:-1] + ((name[-1] + 1) % 4,)), False)
        self.assertIs(is_in(AREA, (Ratio(7 * LONG - 1, LONG), 1), name), False)

    def test_by_names_and_for_the_whole_map(self):
        self.assertIs(is_in(name=(), area=AREA, place=(0, 3)), True)

    def test_wrong_arguments(self):
        right = {"area": AREA, "place": (1, 2), "name": (1, 2)}
        place, name = (0, 4), (4,)
        self.fails_for_each(InvalidPlace, wrong_places(AREA), is_in, right, "place")
        self.fails_for_each(InvalidName, wrong_names(AREA.plan), is_in, right, "name")
        self.fails_in_sequence(is_in, right, {
            "area": (True, InvalidMap, [True]), "place": (place, InvalidPlace, [place]), "name": (name, InvalidName, [name]),
        })


class TestGoneRound(Checks, unittest.TestCase):
    def numbers(self, length):
        some = [Fraction(0), Fraction(1, LONG), length / 3, length - Fraction(1, LONG), length, length + 1, length * 7]
        return some + [-number for number in some] + [length * LONG + Fraction(1, 2), -length * LONG - Fraction(1, 2)]

    def test_all_sorts_of_numbers(self):
        for area in models.sample_maps(rounds=models.ROUNDS[:2], lengths=models.LENGTHS):
            lengths = models.lengths_of(area)
            for place in itertools.product(*[self.numbers(length) for length in lengths]):
                goal = tuple(
                    number % length if axis in area.closed else number
                    for axis, number, length in zip(("east", "north"), place, lengths)
                )
                if all(0 <= number < length for number, length in zip(goal, lengths)):
                    told = gone_round(area, *ratios(place))
                    self.are_ratios(told, goal)
                    self.assertIs(is_place(area, told), True)
                else:
                    self.fails_with_pair(area, *ratios(place))

    def fails_with_pair(self, area, east, north):
        with self.assertRaises(InvalidPlace) as caught:
            gone_round(area, east, north)
        value = caught.exception.value
        self.assertIs(value.__class__, tuple)
        self.assertEqual(len(value), 2)
        for told, passed in zip(value, (east, north)):
            self.assertIs(told.__class__, passed.__class__)
            if not told is passed:
                self.assertEqual(told, passed)

    def test_integers(self):
        self.are_ratios(gone_round(AREA, -1, 3), (7, 3))
        self.are_ratios(gone_round(AREA, 8, 0), (0, 0))
        self.are_ratios(gone_round(north=1, east=83, area=AREA), (3, 1))
        for east, north in ((0, 4), (-1, -1), (100, 7)):
            self.fails_with_pair(AREA, east, north)

    def test_no_numbers(self):
        both = models.map_of([[("east", 2), ("north", 2)]], closed=("east", "north"))
        for area in (AREA, both, AREA.turned(), models.map_of([[("east", 2), ("north", 2)]])):
            for value in no_numbers():
                self.fails_with_pair(area, value, 0)
                self.fails_with_pair(area, 0, value)
                self.fails_with_pair(area, value, value)
                self.fails_with_pair(area, 99, value)

    def test_wrong_maps(self):
        self.fails_for_each(InvalidMap, not_of(Map), gone_round, {"area": AREA, "east": 0, "north": 0}, "area")
        self.fails(InvalidMap, [5], gone_round, 5, True, None)


class TestNextSign(Checks, unittest.TestCase):
    def test_it_stands_in_the_longer_names(self):
        for area in models.sample_maps():
            for place in models.corners(area, 2)[::3]:
                for f in range(4):
                    self.is_integer(next_sign(area, place, f), models.name_at(area, place, f + 1)[f])
        self.is_integer(next_sign(f=1, area=AREA, place=(7, 1)), 3)

    def test_great_finenesses(self):
        for area in models.sample_maps()[::3]:
            for place in models.corners(area, 1)[::9]:
                name = name_at(area, place, 1000)
                for f in (0, 30, 47, 998, 999):
                    self.is_integer(next_sign(area, place, f), name[f])
                columns, rows = area.plan.parts(1000 % len(area.plan))
                counts, lengths = models.counts(area.plan, 1001), models.lengths_of(area)
                x, y = [fraction(number) * many // length for number, many, length in zip(place, counts, lengths)]
                goal = models.sign_at(models.round_at(area.plan, 1000), (x % columns, y % rows))
                self.is_integer(next_sign(area, place, 1000), goal)

    def test_wrong_arguments(self):
        right = {"area": AREA, "place": (1, 2), "f": 1000}
        next_sign(**right)
        self.fails_for_each(InvalidMap, not_of(Map), next_sign, right, "area")
        self.fails_for_each(InvalidPlace, wrong_places(AREA), next_sign, right, "place")
        self.fails_for_each(InvalidNumber, no_counts(), next_sign, right, "f")
        for f in (1001, 10 ** 60):
            self.fails(TooMany, ["signs", 1000], next_sign, AREA, (1, 2), f)
            self.fails(TooMany, ["signs", 1000], name_at, AREA, (1, 2), f)


class TestFile(Checks, unittest.TestCase):
    def test_everything_listed_is_defined_here(self):
        for name, parameters in (
            ("is_place", ["area", "value"]), ("name_at", ["area", "place", "f"]), ("extent", ["area", "name"]),
            ("is_in", ["area", "place", "name"]), ("gone_round", ["area", "east", "north"]),
            ("next_sign", ["area", "place", "f"]),
        ):
            self.assertEqual(getattr(file, name).__module__, "movecells.places")
            self.has_parameters(getattr(file, name), *parameters)

    def test_passed_places_stay(self):
        place = (Ratio(7), 1)
        name_at(AREA, place, 3)
        self.assertEqual(place, (Ratio(7), 1))
        self.assertEqual(ratio(fraction(place[0])), Ratio(7))


if __name__ == "__main__":
    unittest.main()
