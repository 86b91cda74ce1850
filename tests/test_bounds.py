"""movecells/bounds.py: what is asked without need, and how far off what is told can be [2], [53], [84] to [86]."""

import itertools
import unittest
from fractions import Fraction

from movecells import bounds as file
from movecells.alike import once_from
from movecells.bounds import far_bound, idle, is_straight, least_lists, most_in_vain, needed, spare
from movecells.errors import InvalidGauge, InvalidPhase, InvalidRule, InvalidSign
from movecells.gauges import Gauge
from movecells.maps import Map
from movecells.missing import misses_nothing
from movecells.plans import Plan
from movecells.ratios import Ratio
from movecells.rules import Rule
from movecells.tables import Table
from tests import graph_models, models, search_models
from tests.graph_models import EDGES, STAY, sample_rules, some_rules, spoiled, written_otherwise
from tests.models import MOVES, fraction, ratio
from tests.support import Checks, no_counts_below, not_of
from tests.test_graphs import GAUGE, SQUARES, WHOLE

AREA = GAUGE.area
TABLE = Table.right(SQUARES)
MIXED = Plan([("east", 2), ("north", 2)], [("east", 3), ("north", 3)])


def straight_rules():
    """Straight rules over plans and maps of all sorts, with reaches of all sorts, both kinds, and not all moves."""
    found = []
    reaches = [(1, 1), (Ratio(1, 2), Ratio(2, 3)), (Ratio(1, 5), Ratio(9, 10))]
    sorts = itertools.product(graph_models.ROUNDS, models.CLOSED, ("box", "sum"), reaches)
    for at, (rounds, closed, kind, both) in enumerate(sorts):
        gauge = Gauge(models.map_of(rounds, models.LENGTHS[at % 2], closed), *both, kind)
        rule = Rule.whole(gauge) - MOVES[at % 9:][:at % 4]
        found.append(rule if at % 3 else rule.with_table(written_otherwise(gauge.area.plan)))
    return found


def widest(one, other, side, length, is_closed):
    """The least number that no gap of two numbers in two parts of an axis is above."""
    low, high = (other - one - 1) * side, (other - one + 1) * side
    if not is_closed:
        return max(abs(low), abs(high))
    halves = [turn * length + length / 2 for turn in range(-3, 3)]
    if any(low <= half <= high for half in halves):
        return length / 2
    return max(min(abs(end) % length, length - abs(end) % length) for end in (low, high))


def far_at(rule, f):
    """How far off places in asked cells can be at a fineness, divided by the distances of this fineness."""
    area = rule.gauge.area
    found = []
    for move in [STAY] if f == 0 else rule.base_moves():
        gaps = []
        for at, axis in enumerate(("east", "north")):
            many, side, length = models.counts(area.plan, f)[at], models.sides(area, f)[at], models.lengths_of(area)[at]
            some = set(range(min(many, 6))) | {many // 2} | set(range(max(0, many - 3), many))
            cells = [number for number in some if axis in area.closed or 0 <= number + move[at] < many]
            gaps.append(max(
                [widest(number, (number + move[at]) % many, side, length, axis in area.closed) for number in cells],
                default=None,
            ))
        if None not in gaps:
            found.append(max(gaps) if rule.gauge.kind == "box" else sum(gaps))
    return max(found) / search_models.greatest(rule.gauge, f + 1)


def in_vain_at(rule, f):
    """The most cells that are asked in vain at a fineness, for places of all sorts and a distance as small as can be."""
    gauge = rule.gauge
    h = search_models.greatest(gauge, f + 1)
    d = h + (search_models.greatest(gauge, f) - h) / 1000
    numbers = []
    for side, many in zip(models.sides(gauge.area, f), models.counts(gauge.area.plan, f)):
        # Somewhere in the midst of the map.
        numbers.append([side * (many // 2) + part for part in (0, side / 2, side * Fraction(9999, 10000))])
    found = []
    for place in itertools.product(*numbers):
        name = models.name_at(gauge.area, place, f)
        pairs = {models.neighbour_pair(gauge.area, name, move) for move in rule.base_moves()} - {None}
        asked = [other for other in names_with(gauge.area.plan, f, pairs)]
        found.append(len([other for other in asked if not is_near(gauge, place, other, d)]))
    return max(found)


def names_with(plan, f, pairs):
    """The names of a fineness with these number pairs."""
    found = []
    for x, y in pairs:
        signs = []
        for at in reversed(range(f)):
            cuts = models.round_at(plan, at)
            columns, rows = models.parts_of(cuts)
            signs.insert(0, models.sign_at(cuts, (x % columns, y % rows)))
            x, y = x // columns, y // rows
        found.append(tuple(signs))
    return found


def is_near(gauge, place, name, d):
    length, is_had = models.way(gauge.area, gauge.kind, place, name)
    return length < d or (is_had and length == d)


class TestMovesWithoutNeed(Checks, unittest.TestCase):
    def is_moves(self, told, moves):
        self.assertIs(told.__class__, list)
        self.assertEqual(told, sorted(moves))
        for move in told:
            self.is_name(move, move)

    def test_needed_and_spare(self):
        for rule in some_rules(60):
            plan = rule.table.plan
            for phase in range(len(plan)):
                f = phase or len(plan)
                for sign in range(plan.signs(phase)):
                    reached = search_models.reached(rule.gauge, f, sign)
                    self.is_moves(needed(rule.gauge, phase, sign), reached)
                    self.is_moves(spare(rule, phase, sign), set(graph_models.list_of(rule, phase, sign)) - set(reached))
        self.is_moves(needed(sign=2, phase=0, gauge=GAUGE), [move for move in MOVES if move[0] >= 0])
        self.is_moves(spare(sign=2, phase=0, rule=WHOLE), [(-1, -1), (-1, 0), (-1, 1)])

    def test_idle_moves(self):
        seen = 0
        for rule in sample_rules():
            plan = rule.table.plan
            goal = []
            for phase, f in graph_models.taken(rule.gauge).items():
                for move in MOVES:
                    signs = [sign for sign in range(plan.signs(phase)) if move in graph_models.list_of(rule, phase, sign)]
                    if signs and not any(move in search_models.reached(rule.gauge, f, sign) for sign in signs):
                        goal.append((phase, move))
            told = idle(rule)
            self.assertIs(told.__class__, list)
            self.assertEqual(told, sorted(goal))
            seen += len(goal)
        self.assertGreater(seen, 10)
        self.assertEqual(idle(WHOLE), [])

    def test_idle_moves_of_looks(self):
        rule = Rule(GAUGE, TABLE, [STAY], looks={(0, 2): [STAY, (-1, 0), (1, 0)]})
        self.assertEqual(idle(rule=rule), [(0, (-1, 0))])
        self.assertEqual(idle(rule.with_look(0, 1, [STAY, (-1, 0), (1, 0)])), [])
        # What only stands in the moves is in no list if all next signs have looks.
        looks = {(0, sign): [STAY] for sign in range(4)}
        self.assertEqual(idle(Rule(GAUGE, TABLE, MOVES, looks=looks)), [])

    def test_phases_that_are_not_taken(self):
        plan = Plan([("east", 2)], [("north", 2)])
        gauge = Gauge(Map(plan, 8, 8), 1, 1, "box")
        looks = {(1, 0): [STAY, (0, 1)], (1, 1): [STAY]}
        rule = Rule(gauge, Table.right(plan), [STAY], looks=looks)
        self.assertEqual((gauge.taken(), idle(rule)), ([0], []))
        self.assertEqual(set(least_lists(gauge).looks()), {(0, 0), (0, 1)})

    def test_new_each_time(self):
        for action in (lambda: needed(GAUGE, 0, 2), lambda: spare(WHOLE, 0, 2)):
            told = action()
            told.clear()
            self.assertNotEqual(action(), [])

    def test_least_lists(self):
        for rule in sample_rules()[::4]:
            gauge = rule.gauge
            told = least_lists(gauge)
            self.assertIs(told.__class__, Rule)
            plan = gauge.area.plan
            looks = {}
            for phase, f in graph_models.taken(gauge).items():
                for sign in range(plan.signs(phase)):
                    looks[(phase, sign)] = search_models.reached(gauge, f, sign)
            self.assertEqual(told, Rule(gauge, Table.right(plan), MOVES, edges=Rule.whole(gauge).edges, looks=looks))
            self.assertEqual(told.looks(), looks)
            self.assertIs(misses_nothing(told), True)
            self.assertEqual(idle(told), [])
            # One move fewer in one of the looks, and something is missed.
            phase, sign = sorted(looks)[-1]
            if len(looks[(phase, sign)]) > 1:
                few = [move for move in looks[(phase, sign)] if move != STAY][1:] + [STAY]
                self.assertIs(misses_nothing(told.with_look(phase, sign, few)), False)

    def test_wrong_arguments(self):
        right = {"gauge": GAUGE, "rule": WHOLE, "phase": 0, "sign": 3}
        for action, first, error, wrong in (
            (needed, "gauge", InvalidGauge, not_of(Gauge) + [WHOLE]), (spare, "rule", InvalidRule, not_of(Rule) + [GAUGE]),
        ):
            given = {name: right[name] for name in (first, "phase", "sign")}
            self.has_parameters(action, *given)
            self.fails_for_each(error, wrong, action, given, first)
            self.fails_for_each(InvalidPhase, no_counts_below(1), action, given, "phase")
            self.fails_for_each(InvalidSign, no_counts_below(4), action, given, "sign")
            several = {first: (None, error, [None]), "phase": (True, InvalidPhase, [True]), "sign": (4, InvalidSign, [4])}
            self.fails_in_sequence(action, given, several)
        for action in (idle, is_straight, far_bound, most_in_vain):
            self.has_parameters(action, "rule")
            self.assertEqual((action.__module__, getattr(file, action.__name__)), ("movecells.bounds", action))
            self.fails_for_each(InvalidRule, not_of(Rule) + [GAUGE], action, {}, "rule")
        self.has_parameters(least_lists, "gauge")
        self.fails_for_each(InvalidGauge, not_of(Gauge) + [WHOLE], least_lists, {}, "gauge")


class TestStraight(Checks, unittest.TestCase):
    def test_rules_that_are_and_are_not(self):
        for rounds, closed in itertools.product(models.ROUNDS, models.CLOSED):
            gauge = Gauge(models.map_of(rounds, closed=closed), 1, 1, "box")
            rule = Rule.whole(gauge)
            plan = gauge.area.plan
            self.assertIs(is_straight(rule), True)
            self.assertIs(is_straight(rule - MOVES), True)
            self.assertIs(is_straight(rule.with_table(written_otherwise(plan))), True)
            for other in [
                rule.with_look(0, 0, MOVES), rule.with_table(spoiled(plan, 3)),
                *[rule.with_edges(edges) for edges in EDGES if edges != rule.edges],
            ]:
                self.assertIs(is_straight(other), False)
                self.assertEqual((far_bound(other), most_in_vain(other)), (None, None))
        self.assertIs(is_straight(rule=WHOLE.with_look(0, 0, MOVES).without_looks()), True)


class TestFarBound(Checks, unittest.TestCase):
    def test_by_looking_through_cells(self):
        for rule in straight_rules():
            told = far_bound(rule)
            many = len(rule.table.plan)
            taken = graph_models.taken(rule.gauge)
            found = [far_at(rule, 0)] + [far_at(rule, f) for f in range(1, 4 + 2 * many) if f % many in taken]
            self.is_ratio(told, max(found))

    def test_no_told_place_is_just_so_far(self):
        for rule in straight_rules()[::9]:
            gauge = rule.gauge
            bound = fraction(far_bound(rule))
            for f in (1, 2):
                if f % len(rule.table.plan) not in graph_models.taken(gauge):
                    continue
                d = search_models.greatest(gauge, f + 1) * Fraction(1001, 1000)
                place = tuple(ratio(side * Fraction(999, 1000)) for side in models.sides(gauge.area, f))
                for name in rule(place, ratio(d)):
                    for parts in itertools.product((Fraction(0), Fraction(999, 1000)), repeat=2):
                        ends = models.borders(gauge.area, name)
                        other = [low + (high - low) * part for (low, high), part in zip(ends, parts)]
                        self.assertLess(models.distance(gauge.area, gauge.kind, place, other), bound * d)

    def test_whole_maps(self):
        """With the own cell alone and small cells the whole map, which is asked for great distances, is the widest."""
        for closed, kind, told in (
            ((), "box", 9), ((), "sum", 12), (("east",), "box", Fraction(9, 2)), (("east",), "sum", Fraction(15, 2)),
            (("north",), "sum", Fraction(21, 2)), (("east", "north"), "sum", 6),
        ):
            gauge = Gauge(Map(Plan.squares(3), 9, 3, closed=closed), Ratio(1, 3), 1, kind)
            self.is_ratio(far_bound(Rule.whole(gauge) - MOVES), max(Fraction(told), far_at(Rule.whole(gauge) - MOVES, 1)))
        self.is_ratio(far_bound(rule=WHOLE), 8)


class TestMostInVain(Checks, unittest.TestCase):
    def test_by_looking_through_places(self):
        seen = set()
        for rule in straight_rules():
            if rule.gauge.kind == "sum":
                self.assertIs(most_in_vain(rule), None)
                continue
            many = len(rule.table.plan)
            taken = graph_models.taken(rule.gauge)
            found = [0] + [in_vain_at(rule, f) for f in range(2 * many, 4 + 3 * many) if f % many in taken]
            self.is_integer(most_in_vain(rule), max(found))
            seen.add(max(found))
        self.assertGreater(len(seen), 3)

    def test_by_the_rule_itself(self):
        for closed in models.CLOSED:
            gauge = Gauge(Map(SQUARES, 8, 4, closed=closed), Ratio(1, 2), 1, "box")
            rule = Rule.whole(gauge)
            found = []
            for f in (2, 3, 4):
                d = search_models.greatest(gauge, f + 1) * Fraction(1001, 1000)
                for parts in itertools.product((0, Fraction(1, 2), Fraction(99, 100)), repeat=2):
                    place = tuple(ratio(side * (2 + part)) for side, part in zip(models.sides(gauge.area, f), parts))
                    found.append(len(rule.in_vain(place, ratio(d))))
            self.assertEqual(most_in_vain(rule=rule), max(found))

    def test_few_moves(self):
        gauge = Gauge(Map(SQUARES, 8, 8), 1, 1, "box")
        whole = Rule.whole(gauge)
        # Half of a side is just as long as the distance: one neighbour is needed on each axis.
        self.is_integer(most_in_vain(whole), 5)
        self.is_integer(most_in_vain(whole - MOVES), 0)
        self.is_integer(most_in_vain(whole - [(1, 1), (1, 0), (1, -1)]), 4)
        less = Rule.whole(Gauge(Map(SQUARES, 8, 8), Ratio(99, 100), 1, "box"))
        self.is_integer(most_in_vain(less), 8)
        self.is_integer(most_in_vain(less - [(1, 1), (0, 1)]), 6)
        three = Plan.squares(3)
        self.is_integer(most_in_vain(Rule.whole(Gauge(Map(three, 8, 8), 1, 1, "box"))), 8)
        # A round that is not taken asks nothing.
        plan = Plan([("east", 2)], [("north", 2)])
        rule = Rule.whole(Gauge(Map(plan, 8, 8), 1, 1, "box"))
        self.is_integer(most_in_vain(rule), max(in_vain_at(rule, f) for f in (4, 6)))


class TestTogether(unittest.TestCase):
    def test_once_from_of_straight_rules(self):
        """Neighbours are the same only where a closed axis has less than three columns or rows."""
        for rule in straight_rules():
            many = len(rule.table.plan)
            told = [f for f in range(1, 8) if f % many in graph_models.taken(rule.gauge) and self.is_twice(rule, f)]
            self.assertEqual(once_from(rule), max(told, default=0) + 1)

    def is_twice(self, rule, f):
        """Whether two moves lead to one cell from some cell of a fineness."""
        area = rule.gauge.area
        counts = models.counts(area.plan, f)
        for one, other in itertools.combinations(rule.base_moves(), 2):
            same = [axis not in area.closed and i == j or axis in area.closed and (i - j) % many == 0
                    for axis, i, j, many in zip(("east", "north"), one, other, counts)]
            there = [axis in area.closed or i == 0 or many > 1 for axis, i, many in zip(("east", "north"), one, counts)]
            if all(same) and all(there):
                return True
        return False


if __name__ == "__main__":
    unittest.main()
