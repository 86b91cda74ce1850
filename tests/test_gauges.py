"""movecells/gauges.py: how fine one asks, and which moves are reached [2], [51], [52], [53]."""

import itertools
import unittest
from fractions import Fraction

from movecells.errors import InvalidDistance, InvalidKind, InvalidMap, InvalidNumber, InvalidPhase, InvalidReach
from movecells.errors import InvalidSign, TooMany
from movecells.gaps import has_near
from movecells.gauges import Gauge
from movecells.maps import Map
from movecells.plans import Plan
from movecells.ratios import Ratio
from tests import models, search_models
from tests.models import E2, E3, MOVES, N2, N3, fraction, ratio, ratios
from tests.support import Alike, Checks, no_counts, no_counts_below, no_numbers, not_of, odd_values
from tests.test_gaps import wrong_distances, wrong_kinds

SQUARES = Plan.squares(2)
AREA = Map(SQUARES, 8, 4, closed=["east"])
GAUGE = Gauge(AREA, 1, Ratio(1, 2), "box")
SMALL = Ratio(1, 10 ** 58)
GREAT = 10 ** 59


def wrong_reaches():
    """Values that are no NUMBERS greater than 0 and at most 1."""
    return no_numbers() + [0, -1, 2, GREAT, Ratio(0), Ratio(-1, 2), 1 + SMALL, Ratio(2)]


class TestConstructor(Checks, unittest.TestCase):
    def test_reaches_of_all_sorts(self):
        for east, north in itertools.product((Fraction(1), SMALL, 1 - SMALL, Fraction(2, 3)), repeat=2):
            for kind in ("box", "sum"):
                gauge = Gauge(AREA, ratio(fraction(east)), ratio(fraction(north)), kind)
                self.are_ratios(gauge.reaches, (fraction(east), fraction(north)))
                self.assertEqual((gauge.area, gauge.kind), (AREA, kind))
        self.are_ratios(Gauge(AREA, 1, Ratio(4, 6), "box").reaches, (1, Fraction(2, 3)))

    def test_by_names(self):
        gauge = Gauge(kind="sum", north=1, east=Ratio(1, 3), area=AREA)
        self.are_ratios(gauge.reaches, (Fraction(1, 3), 1))
        self.has_parameters(Gauge, "area", "east", "north", "kind")

    def test_wrong_arguments(self):
        right = {"area": AREA, "east": 1, "north": Ratio(1, 2), "kind": "sum"}
        self.fails_for_each(InvalidMap, not_of(Map), Gauge, right, "area")
        for name in ("east", "north"):
            self.fails_for_each(InvalidReach, wrong_reaches(), Gauge, right, name)
        self.fails_for_each(InvalidKind, wrong_kinds(), Gauge, right, "kind")
        self.fails_in_sequence(Gauge, right, {
            "area": (0, InvalidMap, [0]), "east": (2, InvalidReach, [2]), "north": (True, InvalidReach, [True]),
            "kind": ("Sum", InvalidKind, ["Sum"]),
        })

    def test_everything_listed_stands_in_the_class(self):
        methods = "__init__ greatest __call__ is_taken taken reached with_reaches __mul__ __rmul__ __eq__ __repr__".split()
        properties = ("area", "kind", "reaches")
        self.stands_in_class(Gauge, "movecells.gauges", methods=methods, properties=properties)
        for name in properties:
            with self.assertRaises(AttributeError):
                setattr(GAUGE, name, 1)
        self.has_parameters(GAUGE.greatest, "f")
        self.has_parameters(GAUGE, "d")
        self.has_parameters(GAUGE.is_taken, "f")
        self.has_parameters(GAUGE.taken)
        self.has_parameters(GAUGE.reached, "phase", "sign")
        self.has_parameters(GAUGE.with_reaches, "east", "north")


class TestGreatest(Checks, unittest.TestCase):
    def test_small_and_great_finenesses(self):
        for gauge in search_models.sample_gauges():
            for f in (1, 2, 3, 4, 5, 48, 999, 1000):
                self.is_ratio(gauge.greatest(f), search_models.greatest(gauge, f))
        self.is_ratio(GAUGE.greatest(f=1), 1)
        self.is_ratio(Gauge(AREA, Ratio(1, 4), 1, "sum").greatest(1), 1)
        self.is_ratio(Gauge(AREA, 1, 1, "box").greatest(1000), Fraction(4, 2 ** 1000))

    def test_they_never_grow_and_come_again(self):
        for gauge in search_models.sample_gauges():
            told = [fraction(gauge.greatest(f)) for f in range(1, 9)]
            self.assertEqual(told, sorted(told, reverse=True))
            many = len(gauge.area.plan)
            self.assertEqual(told[many:], [worth / gauge.area.plan.growth for worth in told[:-many]])

    def test_wrong_finenesses(self):
        self.fails_for_each(InvalidNumber, no_counts() + [0], GAUGE.greatest, {}, "f")
        for f in (1001, 10 ** 60):
            self.fails(TooMany, ["signs", 1000], GAUGE.greatest, f)


class TestFineness(Checks, unittest.TestCase):
    def test_just_at_and_beside_greatest_distances(self):
        for gauge in search_models.sample_gauges():
            for f in range(1, 8):
                greatest = search_models.greatest(gauge, f)
                for d in (greatest, greatest + fraction(SMALL), greatest - fraction(SMALL), greatest / 3 * 2):
                    self.is_integer(gauge(ratio(d)), search_models.fineness(gauge, d, 30))

    def test_an_example_and_by_name(self):
        self.assertEqual([Gauge(AREA, 1, 1, "box")(d) for d in (1, 2, 3, Ratio(1, 2))], [2, 1, 0, 3])
        self.is_integer(GAUGE(d=Ratio(1, 3)), 2)

    def test_very_great_distances(self):
        for gauge in search_models.sample_gauges()[::5]:
            for d in (GREAT, Ratio(GREAT), gauge.greatest(1) + SMALL):
                self.is_integer(gauge(d), 0)

    def test_very_small_distances(self):
        for gauge in search_models.sample_gauges()[::5]:
            last = gauge.greatest(1000)
            many = gauge(last * (1 + SMALL))
            self.assertLess(many, 1000)
            self.assertTrue(gauge.greatest(many + 1).is_below(last * (1 + SMALL)))
            behind = search_models.greatest(gauge, 1001)
            if behind < fraction(last):
                self.is_integer(gauge(last), 1000)
                self.is_integer(gauge(ratio(behind) * (1 + SMALL)), 1000)
            else:
                self.fails(TooMany, ["signs", 1000], gauge, last)
            for d in (ratio(behind), ratio(behind) * Ratio(1, 2), ratio(behind * fraction(SMALL)), Ratio(1, 10 ** 990)):
                self.fails(TooMany, ["signs", 1000], gauge, d)

    def test_wrong_distances(self):
        self.fails_for_each(InvalidDistance, wrong_distances(), GAUGE, {}, "d")


class TestTaken(Checks, unittest.TestCase):
    def test_finenesses_of_some_distance(self):
        for gauge in search_models.sample_gauges():
            self.assertIs(gauge.is_taken(0), True)
            for f in range(1, 9):
                told = search_models.greatest(gauge, f + 1) < search_models.greatest(gauge, f)
                self.assertIs(gauge.is_taken(f), told)
                if told:
                    self.is_integer(gauge(gauge.greatest(f)), f)
            found = {gauge(ratio(search_models.greatest(gauge, f))) for f in range(1, 9)}
            self.assertEqual(sorted(found)[:6], [f for f in range(1, max(found) + 1) if gauge.is_taken(f)][:6])
            for f in (1000, 999):
                self.assertIs(gauge.is_taken(f), search_models.greatest(gauge, f + 1) < search_models.greatest(gauge, f))

    def test_phases(self):
        for gauge in search_models.sample_gauges():
            many = len(gauge.area.plan)
            told = gauge.taken()
            self.assertIs(told.__class__, list)
            self.assertEqual(told, sorted({f % many for f in range(1, 13) if gauge.is_taken(f)}))
            for phase in told:
                self.is_integer(phase, phase)
            told.append(5)
            self.assertNotEqual(gauge.taken(), told)

    def test_rounds_that_cut_one_axis_alone(self):
        for rounds, lengths, goal in (
            ([[E2], [N2]], (4, 1), [1]), ([[E2], [N2]], (1, 4), [0]), ([[E2], [N2]], (4, 3), [0, 1]), ([[E2], [N2]], (1, 1), [0]),
            ([[E2], [N2]], (2, 1), [1]), ([[E2, N2]], (4, 1), [0]), ([[N3], [E3, E2], [N2]], (1, 99), [1]),
            ([[N3], [E3, E2], [N2]], (99, 1), [0, 2]),
        ):
            gauge = Gauge(models.map_of(rounds, lengths), 1, 1, "box")
            self.assertEqual(gauge.taken(), goal)
            self.assertEqual([f for f in range(1, len(rounds) + 1) if gauge.is_taken(f)], sorted(p or len(rounds) for p in goal))
        gauge = Gauge(models.map_of([[E2], [N2]], (4, 1)), 1, 1, "box")
        self.assertEqual([gauge.is_taken(f=f) for f in range(6)], [True, True, False, True, False, True])
        self.assertEqual([gauge(d) for d in (2, 1, Ratio(1, 2), Ratio(1, 4))], [0, 1, 3, 5])

    def test_wrong_finenesses(self):
        self.fails_for_each(InvalidNumber, no_counts(), GAUGE.is_taken, {}, "f")
        for f in (1001, 10 ** 60):
            self.fails(TooMany, ["signs", 1000], GAUGE.is_taken, f)


class TestReached(Checks, unittest.TestCase):
    def test_each_next_sign(self):
        for gauge in search_models.sample_gauges():
            plan = gauge.area.plan
            for phase in range(len(plan)):
                for sign in range(models.signs_of(models.round_at(plan, phase))):
                    told = gauge.reached(phase, sign)
                    self.assertIs(told.__class__, list)
                    for f in (phase, phase + len(plan), phase + 3 * len(plan)):
                        if f > 0:
                            self.assertEqual(told, search_models.reached(gauge, f, sign))

    def test_an_example_and_by_names(self):
        gauge = Gauge(AREA, 1, 1, "box")
        goal = [(0, -1), (0, 0), (0, 1), (1, -1), (1, 0), (1, 1)]
        told = gauge.reached(sign=2, phase=0)
        self.assertEqual(told, goal)
        for move in told:
            self.is_name(move, move)
        told.clear()
        self.assertEqual(gauge.reached(0, 2), goal)

    def test_a_least_gap_that_is_just_the_greatest_distance(self):
        area = Map(Plan.squares(2), 4, 4)
        for reach, goal in ((1, MOVES), (Ratio(1, 2) + SMALL, MOVES), (Ratio(1, 2), [(-1, -1), (-1, 0), (0, -1), (0, 0)])):
            self.assertEqual(Gauge(area, reach, reach, "box").reached(0, 0), goal)
        for reach, without in ((1, [(1, 1)]), (1 - SMALL, [(1, 1)]), (Ratio(1, 2) + SMALL, [(1, 1)])):
            self.assertEqual(Gauge(area, reach, reach, "sum").reached(0, 0), [move for move in MOVES if move not in without])
        thirds = Map(Plan.squares(3), 9, 9)
        self.assertEqual(Gauge(thirds, 1, 1, "sum").reached(0, 4), [move for move in MOVES])
        self.assertEqual(Gauge(thirds, Ratio(2, 3), 1, "sum").reached(0, 4), [(-1, 0), (0, -1), (0, 0), (0, 1), (1, 0)])
        self.assertEqual(Gauge(thirds, Ratio(1, 3), 1, "sum").reached(0, 4), [(0, 0)])

    def test_each_move_is_reached_with_some_next_sign(self):
        for gauge in search_models.sample_gauges():
            plan = gauge.area.plan
            for phase in range(len(plan)):
                found = {move for sign in range(plan.signs(phase)) for move in gauge.reached(phase, sign)}
                self.assertEqual(sorted(found), MOVES)

    def test_exactly_if_some_place_is_near_a_place_of_the_cell(self):
        close = Fraction(1, 10 ** 20)
        for rounds, lengths, reaches in itertools.product(
            ([[E2, N2]], [[E3, N2], [N3, E2]], [[E2], [N2]]), ((8, 5), (3, 3)), ((1, 1), (Ratio(1, 2), Ratio(2, 3))),
        ):
            area = models.map_of(rounds, lengths)
            f = 2 * len(rounds)
            own = models.name_at(area, ratios(length / 2 for length in models.lengths_of(area)), f)
            for kind, sign in itertools.product(("box", "sum"), range(models.signs_of(rounds[0]))):
                gauge = Gauge(area, *reaches, kind)
                ends = models.borders(area, own + (sign,))
                some = [(lower, (lower + upper) / 2, upper - (upper - lower) * close) for lower, upper in ends]
                for move in MOVES:
                    beside = models.neighbour(area, own, move)
                    found = any(
                        has_near(area, kind, ratios(place), beside, gauge.greatest(f)) for place in itertools.product(*some)
                    )
                    self.assertIs(found, move in gauge.reached(0, sign), (rounds, sign, move))

    def test_wrong_arguments(self):
        gauge = Gauge(models.map_of([[E2, N2], [E3, N3]]), 1, 1, "sum")
        right = {"phase": 1, "sign": 8}
        self.fails_for_each(InvalidPhase, no_counts_below(2), gauge.reached, right, "phase")
        self.fails_for_each(InvalidSign, no_counts_below(9), gauge.reached, right, "sign")
        self.fails_for_each(InvalidSign, no_counts_below(4), gauge.reached, {"phase": 0, "sign": 3}, "sign")
        self.fails_in_sequence(gauge.reached, right, {"phase": (2, InvalidPhase, [2]), "sign": (9, InvalidSign, [9])})


class TestOthers(Checks, unittest.TestCase):
    def test_with_reaches(self):
        before = repr(GAUGE)
        gauge = GAUGE.with_reaches(Ratio(1, 3), 1)
        self.assertIs(gauge.__class__, Gauge)
        self.are_ratios(gauge.reaches, (Fraction(1, 3), 1))
        self.assertEqual((gauge.area, gauge.kind, repr(GAUGE)), (AREA, "box", before))
        self.assertEqual(GAUGE.with_reaches(north=Ratio(1, 2), east=1), GAUGE)
        right = {"east": 1, "north": 1}
        for name in right:
            self.fails_for_each(InvalidReach, wrong_reaches(), GAUGE.with_reaches, right, name)
        self.fails_in_sequence(GAUGE.with_reaches, right, {"east": (0, InvalidReach, [0]), "north": (2, InvalidReach, [2])})

    def test_multiplied(self):
        gauge = Gauge(AREA, Ratio(1, 2), Ratio(1, 6), "sum")
        for number in (1, 2, Ratio(1, 3), Ratio(2), SMALL, Ratio(3, 2)):
            told = gauge * number
            self.assertIs(told.__class__, Gauge)
            self.are_ratios(told.reaches, (fraction(number) / 2, fraction(number) / 6))
            self.assertEqual((told.area, told.kind), (AREA, "sum"))
        self.assertEqual([1 * gauge, 2 * gauge], [gauge, Gauge(AREA, 1, Ratio(1, 3), "sum")])
        self.are_ratios(gauge.reaches, (Fraction(1, 2), Fraction(1, 6)))

    def test_wrong_numbers(self):
        for gauge in (Gauge(AREA, Ratio(1, 2), Ratio(1, 6), "sum"), Gauge(AREA, Ratio(1, 6), Ratio(1, 2), "box")):
            for value in no_numbers() + [0, -1, 3, 6, GREAT, Ratio(0), Ratio(-1, 2), 2 + SMALL, gauge, AREA]:
                self.fails(InvalidReach, [value], lambda: gauge * value)
            for value in (0, -1, 3, 4, GREAT):
                self.fails(InvalidReach, [value], lambda: value * gauge)
            for value in (True, False):
                self.assertRaises((InvalidReach, TypeError), lambda: value * gauge)

    def test_equal(self):
        gauges = [
            GAUGE, Gauge(AREA, Ratio(1, 2), 1, "box"), Gauge(AREA, 1, 1, "box"), Gauge(AREA, 1, Ratio(1, 2), "sum"),
            Gauge(AREA.turned(), 1, Ratio(1, 2), "box"), Gauge(Map(SQUARES, 8, 4), 1, Ratio(1, 2), "box"),
        ]
        for at, one in enumerate(gauges):
            for position, other in enumerate(gauges):
                self.assertIs(one == other, at == position)
                self.assertIs(one != other, at != position)
            for value in odd_values() + [AREA, repr(one)]:
                self.assertIs(one == value, False)
                if not isinstance(value, Alike):
                    self.assertIs(value == one, False)
        self.assertEqual(GAUGE, Gauge(Map(Plan.squares(2), Ratio(8), 4, closed=("east",)), Ratio(1), Ratio(2, 4), "box"))

    def test_repr(self):
        self.assertEqual(repr(GAUGE), f"Gauge({repr(AREA)}, Ratio(1, 1), Ratio(1, 2), 'box')")
        for gauge in search_models.sample_gauges():
            self.assertEqual(eval(repr(gauge), {"Gauge": Gauge, "Map": Map, "Plan": Plan, "Ratio": Ratio}), gauge)


if __name__ == "__main__":
    unittest.main()
