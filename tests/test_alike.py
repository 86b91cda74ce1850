"""movecells/alike.py: what is asked twice, tables, states and rules that are alike [2], [4], [81] to [83]."""

import itertools
import random
import unittest
from unittest import mock

from movecells import alike as file
from movecells.alike import asks_twice, fault, is_parting, least_states, once_from, parting, rules_alike
from movecells.alike import states_alike, tables_alike, twice
from movecells.bounds import least_lists
from movecells.errors import InvalidNumber, InvalidRule, InvalidState, InvalidTable, OtherMap, OtherPlan, TooMany
from movecells.gauges import Gauge
from movecells.maps import Map
from movecells.plans import Plan
from movecells.ratios import Ratio
from movecells.rules import Rule
from movecells.tables import Table
from tests import graph_models, models, search_models
from tests.graph_models import EDGES, STAY, sample_rules, some_rules, spoiled, table_with_states, written_otherwise
from tests.models import MOVES, fraction, ratio
from tests.search_models import DIRECTIONS, odd_table
from tests.support import Alike, Checks, Row, no_counts, no_counts_below, not_of, odd_values
from tests.test_gaps import wrong_distances
from tests.test_graphs import FEW, GAUGE, SQUARES, WHOLE, WIDE
from tests.test_places import wrong_places

AREA = GAUGE.area
TABLE = Table.right(SQUARES)
HALVES = Plan([("east", 2)], [("north", 2)])
MIXED = Plan([("east", 2), ("north", 2)], [("east", 3), ("north", 3)])
# Tables with just 1,000 states of the comparison (0, (0, 0), FEW) with a rule that asks the own cell alone, and more.
JUST = [
    [(0, 0), (2, 2), (2, 0), (3, 4)], [(0, 4), (1, 3), (2, 0), (3, 3)], [(0, 1), (1, 0), (2, 0), (3, 0)],
    [(0, 3), (1, 2), (2, 3), (3, 1)], [(0, 2), (1, 2), (2, 2), (3, 4)],
]
MORE = [
    [(0, 1), (1, 4), (2, 4), (3, 4)], [(0, 2), (1, None), (2, 0), (3, 1)], [(0, 4), (1, 1), (2, 1), (3, 1)],
    [(3, 1), (1, 3), (2, 2), (3, 2)], [(0, 2), (1, 3), (2, None), (3, 3)],
]
OWN = Rule(WIDE, TABLE, [STAY])


def crowded(entries):
    return Rule(WIDE, table_with_states(SQUARES, entries), FEW)


def same(plan, many=1):
    """A table whose steps exchange nothing and are done at once."""
    return Table(plan, [[[(sign, None) for sign in range(plan.signs(at))] for at in range(len(plan))]] * many, (0,) * 4)


def few_names(plan, f, most=300):
    """Whether there are not too many names of a fineness to look through."""
    many = 1
    for at in range(f):
        many *= plan.signs(at % len(plan))
    return many <= most


class TestAsksTwice(Checks, unittest.TestCase):
    def test_by_looking_through_names(self):
        seen = set()
        for rule in sample_rules():
            least = once_from(rule)
            for f in range(1, 6):
                if few_names(rule.table.plan, f):
                    told = graph_models.twice_at(rule, f)
                    self.assertIs(asks_twice(rule, f), told)
                    seen.add((told, f, rule.gauge.area.closed))
                    if told and least is not None:
                        self.assertLess(f, least)
        self.assertGreater(len(seen), 20)

    def test_whole_rules(self):
        for closed, told in (((), 1), (("east",), 2), (("north",), 2), (("east", "north"), 2)):
            for kind in ("box", "sum"):
                rule = Rule.whole(Gauge(Map(SQUARES, 8, 4, closed=closed), 1, 1, kind))
                self.is_integer(once_from(rule), told)
                self.assertEqual([asks_twice(rule, f) for f in (1, 2, 3, 999, 1000)], [told == 2] + [False] * 4)
        three = Rule.whole(Gauge(Map(Plan.squares(3), 1, 1, closed=["east", "north"]), 1, 1, "box"))
        self.assertEqual((once_from(rule=three), asks_twice(f=1, rule=three)), (1, False))
        rule = Rule.whole(Gauge(Map(Plan.codes(), 1, 1, closed=["east", "north"]), 1, 1, "box"))
        self.assertEqual((once_from(rule), asks_twice(rule, 1)), (1, False))

    def test_finenesses_that_are_not_taken(self):
        gauge = Gauge(Map(HALVES, 8, 8, closed=["east", "north"]), 1, 1, "box")
        rule = Rule.whole(gauge)
        self.assertEqual(gauge.taken(), [0])
        # At the fineness 1 there is one row alone, and the steps to the north make the own cell, but none asks there.
        self.assertEqual([asks_twice(rule, f) for f in (1, 2, 3, 4)], [False, True, False, False])
        self.assertEqual(once_from(rule), 3)
        rule = Rule.whole(Gauge(Map(HALVES, 8, 4, closed=["east", "north"]), 1, 1, "box"))
        self.assertEqual(once_from(rule), max(f for f in range(1, 7) if graph_models.twice_at(rule, f)) + 1)

    def test_at_all_finenesses_and_at_none(self):
        table = same(SQUARES)
        for moves, least in (([STAY], 1), ([STAY, (1, 0)], None), ([STAY, (1, 0), (1, 1)], None)):
            rule = Rule(GAUGE, table, moves)
            self.assertIs(once_from(rule) is None, least is None)
            self.assertEqual([asks_twice(rule, f) for f in (1, 2, 77, 1000)], [least is None] * 4)
        # Two moves that never stand in one list do not make the same name for one place.
        looks = {(0, sign): [STAY] for sign in range(4)}
        self.assertEqual(once_from(Rule(GAUGE, table, [STAY, (1, 0)], looks=looks)), 1)
        looks[(0, 3)] = [(1, 0), STAY]
        self.assertIs(once_from(Rule(GAUGE, table, [STAY], looks=looks)), None)

    def test_moves_that_are_stopped_make_no_name(self):
        table = Table(SQUARES, [[[(sign, 0) for sign in range(4)]]], (0,) * 4)
        for edges in EDGES:
            rule = Rule(GAUGE, table, [STAY, (1, 0)], edges=edges)
            self.assertEqual(asks_twice(rule, 3), edges[0] == "seam")
            self.assertEqual(once_from(rule), None if edges[0] == "seam" else 1)

    def test_once_from_is_the_least(self):
        found = set()
        for rule in sample_rules():
            least = once_from(rule)
            if least is None:
                found.add(None)
                self.assertTrue(any(asks_twice(rule, f) for f in range(100, 120)))
                continue
            self.is_integer(least, least)
            found.add(least)
            self.assertFalse(any(asks_twice(rule, f) for f in range(least, least + 12)))
            if least > 1:
                self.assertIs(asks_twice(rule, least - 1), True)
        self.assertLess({None, 1, 2, 3}, found)

    def test_long_walks_that_end(self):
        """Two moves are alike as long as the states of the one are gone through."""
        states = []
        for state in range(8):
            # Only the sign 0 leads on, and is not exchanged; the last state exchanges all signs.
            states.append([[(0 if state < 7 else 1, state + 1 if state < 7 else None)] + [(sign - 1, None) for sign in (1, 2, 3)]])
        rule = Rule(GAUGE, Table(SQUARES, states, (0, 7, 7, 7)), [STAY, (1, 0)])
        self.assertEqual(once_from(rule), 8)
        self.assertEqual([asks_twice(rule, f) for f in range(1, 10)], [True] * 7 + [False] * 2)
        self.assertEqual([graph_models.twice_at(rule, f) for f in range(1, 5)], [True] * 4)


class TestTwice(Checks, unittest.TestCase):
    def is_twice(self, rule, told):
        """What was told is a place and a distance for which a name is asked twice."""
        self.assertIs(told.__class__, tuple)
        place, d = told
        self.are_ratios(place, [fraction(number) for number in place])
        self.is_ratio(d, fraction(d))
        asked = rule(place, d)
        self.assertLess(len(set(asked)), len(asked))
        return rule.gauge(d)

    def test_all_sorts_of_rules(self):
        for rule in some_rules(70):
            least = once_from(rule)
            for f in (1, 2, 3, 7, 40):
                told = twice(rule, f)
                if told is None:
                    self.assertLessEqual(least, f)
                else:
                    fineness = self.is_twice(rule, told)
                    self.assertGreaterEqual(fineness, f)
                    self.assertFalse(any(asks_twice(rule, between) for between in range(f, fineness)))
        self.assertEqual(self.is_twice(WHOLE, twice(f=1, rule=WHOLE)), 1)
        self.assertIs(twice(WHOLE, 2), None)

    def test_rules_that_always_ask_twice(self):
        gauge = Gauge(Map(MIXED, 8, 8), 1, 1, "sum")
        for move in ((0, -1), (0, 1)):
            rule = Rule(gauge, same(MIXED), [STAY], looks={(1, 5): [STAY, move], (1, 7): [move, STAY]})
            for f, fineness in ((1, 1), (2, 3), (3, 3), (499, 499), (500, 501)):
                self.assertEqual(self.is_twice(rule, twice(rule, f)), fineness)

    def test_very_many_states(self):
        """Steps that exchange nothing, but go through all states, each in its own way."""
        rnd = random.Random(12)
        states = [[[(sign, rnd.choice((None, *range(8)))) for sign in range(4)]] for _ in range(8)]
        for edges in EDGES:
            rule = Rule(GAUGE, Table(SQUARES, states), MOVES, edges=edges)
            told = [asks_twice(rule, f) for f in range(1, 5)]
            self.assertEqual(told, [graph_models.twice_at(rule, f) for f in range(1, 5)])
            self.assertIs(once_from(rule), None)
            for f in (999, 1000):
                self.assertIs(asks_twice(rule, f), True)
            self.assertGreaterEqual(self.is_twice(rule, twice(rule, 500)), 500)

    def test_wrong_numbers(self):
        self.fails_for_each(InvalidNumber, no_counts() + [0, 501, 1000, 1001, 10 ** 50], twice, {"rule": WHOLE, "f": 1}, "f")
        right = {"rule": WHOLE, "f": 500}
        self.fails_in_sequence(twice, right, {"rule": (None, InvalidRule, [None]), "f": (1001, InvalidNumber, [1001])})
        self.fails_for_each(InvalidNumber, no_counts() + [0], asks_twice, {"rule": WHOLE, "f": 1}, "f")
        for f in (1001, 10 ** 50):
            self.fails(TooMany, ["signs", 1000], asks_twice, WHOLE, f)
        self.fails_in_sequence(asks_twice, {"rule": WHOLE, "f": 1000}, {"rule": (0, InvalidRule, [0]), "f": (0, InvalidNumber, [0])})
        self.fails(InvalidRule, [0], asks_twice, 0, 1001)
        for action in (asks_twice, once_from, twice):
            self.fails_for_each(InvalidRule, not_of(Rule) + [GAUGE], action, {} if action is once_from else {"f": 1}, "rule")

    def test_finenesses_that_are_too_great(self):
        """No table of eight states asks twice only so far off: the limit is set lower for this."""
        gauge = Gauge(Map(MIXED, 8, 8), 1, 1, "sum")
        rule = Rule(gauge, same(MIXED), [STAY], looks={(1, 5): [STAY, (0, -1)]})
        with mock.patch.object(file, "MOST_FINENESS", 20):
            self.assertEqual(self.is_twice(rule, twice(rule, 19)), 19)
            with self.assertRaises(TooMany) as caught:
                twice(rule, 20)
            self.assertEqual((caught.exception.what, caught.exception.limit), ("signs", 20))
            self.assertIs(twice(WHOLE, 20), None)


class TestTables(Checks, unittest.TestCase):
    def unlike_at(self, one, other, f):
        """The directions and names of a fineness at which steps tell unlike things, by looking through all of them."""
        found = []
        for direction in DIRECTIONS:
            for name in models.all_names(one.plan, f):
                told = [
                    search_models.step(graph_models.entries_of(table), table.begins(), name, direction)
                    for table in (one, other)
                ]
                if told[0] != told[1]:
                    found.append((direction, name))
        return found

    def is_fault(self, table, told):
        direction, name = told
        self.assertIs(told.__class__, tuple)
        self.is_name(name, name)
        right = search_models.right_states(table.plan)
        self.assertNotEqual(
            search_models.step(graph_models.entries_of(table), table.begins(), name, direction),
            search_models.step(right, (0, 1, 2, 3), name, direction),
        )
        return len(name)

    def test_right_tables_are_written_in_many_ways(self):
        for rounds in models.ROUNDS:
            plan = Plan(*rounds)
            right = Table.right(plan)
            for table in (right, written_otherwise(plan, 1), written_otherwise(plan, 2)):
                self.assertIs(tables_alike(table, right), True)
                self.assertIs(tables_alike(other=table, table=right), True)
                self.assertIs(fault(table=table), None)
                self.assertEqual(least_states(table), 4)
            self.assertIs(tables_alike(written_otherwise(plan, 3), written_otherwise(plan, 4)), True)

    def test_tables_with_a_wrong_entry(self):
        for rounds in models.ROUNDS:
            plan = Plan(*rounds)
            for salt in range(6):
                table = spoiled(plan, salt)
                self.assertIs(tables_alike(table, Table.right(plan)), False)
                many = self.is_fault(table, fault(table))
                for f in range(1, many + 1):
                    if few_names(plan, f, 1100):
                        self.assertEqual(self.unlike_at(table, Table.right(plan), f) != [], f == many)

    def test_odd_tables(self):
        rnd = random.Random(1)
        alike = 0
        for at in range(80):
            plan = Plan(*models.ROUNDS[at % 2 * 3])
            signs = [plan.signs(phase) for phase in range(len(plan))]
            # Few of the signs are exchanged, so that tables are often alike for short names.
            states = [
                [[(sign, rnd.choice((None, 0, 1, 2))) for sign in range(many)] for many in signs]
                for _ in range(3)
            ]
            begins = tuple(rnd.randrange(3) for _ in range(4))
            one = Table(plan, states, begins)
            state, phase, sign = rnd.randrange(3), rnd.randrange(len(plan)), rnd.randrange(2)
            made = sign if at % 3 else rnd.randrange(signs[phase])
            other = one.with_entry(state, phase, sign, (made, rnd.choice((None, 0, 1, 2))))
            told = tables_alike(one, other)
            self.assertIs(tables_alike(other, one), told)
            alike += told
            unlike = [f for f in range(1, 6) if few_names(plan, f, 1100) and self.unlike_at(one, other, f)]
            if told:
                self.assertEqual(unlike, [])
        self.assertGreater(alike, 10)
        self.assertLess(alike, 70)

    def test_only_the_edge_is_told_otherwise(self):
        plan = Plan.squares(2)
        table = TABLE.with_entry(0, 0, 2, (0, None))
        self.assertEqual(fault(table), ("east", (2,)))
        stays = same(plan)
        goes = Table(plan, [[[(sign, 0) for sign in range(4)]]], (0,) * 4)
        self.assertIs(tables_alike(stays, goes), False)
        self.assertIs(tables_alike(goes, goes), True)

    def test_faults_that_are_far_off(self):
        """The state that is wrong stands only behind other ones, and in one of the rounds alone."""
        plan = MIXED
        right = search_models.right_states(plan)
        for many in (1, 2, 3):
            states = [[list(entries) for entries in state] for state in right]
            east = right[0]
            for at in range(many):
                behind = min(4 + at + 1, 3 + many)
                states.append([[(sign, None if carry is None else behind) for sign, carry in entries] for entries in east])
            states[0] = [[(sign, None if carry is None else 4) for sign, carry in entries] for entries in east]
            table = Table(plan, states)
            self.assertIs(fault(table), None)
            # The last state is wrong for one sign of the second round.
            sign, state = table[3 + many, 1, 4]
            wrong = table.with_entry(3 + many, 1, 4, ((sign + 1) % 9, state))
            told = fault(wrong)
            self.assertEqual(told[0], "east")
            length = self.is_fault(wrong, told)
            least = [f for f in range(1, 5) if few_names(plan, f, 1500) and self.unlike_at(wrong, Table.right(plan), f)]
            self.assertEqual([length], least[:1] or [length])
            self.assertGreaterEqual(length, many + 1)

    def test_wrong_tables(self):
        for name in ("table", "other"):
            self.fails_for_each(InvalidTable, not_of(Table) + [SQUARES], tables_alike, {"table": TABLE, "other": TABLE}, name)
        for action in (fault, least_states):
            self.has_parameters(action, "table")
            self.fails_for_each(InvalidTable, not_of(Table), action, {}, "table")
        wrong = {"table": (None, InvalidTable, [None]), "other": (0, InvalidTable, [0])}
        self.fails_in_sequence(tables_alike, {"table": TABLE, "other": TABLE}, wrong)
        for plan in (MIXED, Plan([("north", 2), ("east", 2)]), HALVES):
            with self.assertRaises(OtherPlan) as caught:
                tables_alike(TABLE, Table.right(plan))
            self.assertEqual((caught.exception.one, caught.exception.other), (SQUARES, plan))


class TestStates(Checks, unittest.TestCase):
    def alike_by_names(self, table, one, other, most):
        states = graph_models.entries_of(table)
        for f in range(1, most + 1):
            for name in models.all_names(table.plan, f):
                if search_models.step(states, (one,) * 4, name, "east") != search_models.step(states, (other,) * 4, name, "east"):
                    return False
        return True

    def test_states_of_tables_of_all_sorts(self):
        found = set()
        for plan in (SQUARES, HALVES):
            tables = [Table.right(plan), written_otherwise(plan), written_otherwise(plan, 5), odd_table(plan), spoiled(plan, 3)]
            for table in tables:
                for one, other in itertools.product(range(len(table)), repeat=2):
                    told = states_alike(table, one, other)
                    self.assertIs(told, self.alike_by_names(table, one, other, 4))
                    found.add((told, one == other))
        self.assertEqual(len(found), 3)
        self.assertIs(states_alike(other=1, one=1, table=TABLE), True)

    def test_how_many(self):
        for plan in (SQUARES, HALVES, MIXED):
            rnd = random.Random(2)
            for at in range(20):
                signs = [plan.signs(phase) for phase in range(len(plan))]
                states = [
                    [[(sign if at % 2 else rnd.randrange(many), rnd.choice((None, 0, 1, 2, 3))) for sign in range(many)]
                     for many in signs]
                    for _ in range(4)
                ]
                table = Table(plan, states, tuple(rnd.randrange(2) for _ in range(4)))
                there = set(table.begins())
                for _ in range(4):
                    there |= {
                        table[state, phase, sign][1]
                        for state in there for phase in range(len(plan)) for sign in range(signs[phase])
                    } - {None}
                kinds = {min(other for other in there if states_alike(table, state, other)) for state in there}
                self.is_integer(least_states(table), len(kinds))
        self.assertEqual(least_states(same(SQUARES, 8)), 1)
        self.assertEqual(least_states(table=odd_table(SQUARES)), 5)

    def test_states_that_no_direction_comes_to(self):
        table = Table(SQUARES, [[[(sign, 0) for sign in range(4)]], [[(0, 1)] * 4], [[(1, 0)] * 4]], (0, 0, 0, 0))
        self.assertEqual(least_states(table), 1)
        table = Table(SQUARES, [[[(sign, 2) for sign in range(4)]], [[(0, 1)] * 4], [[(1, 0)] * 4]], (0, 0, 0, 0))
        self.assertEqual(least_states(table), 2)

    def test_wrong_states(self):
        right = {"table": TABLE, "one": 3, "other": 3}
        for name in ("one", "other"):
            self.fails_for_each(InvalidState, no_counts_below(4), states_alike, right, name)
        wrong = {"table": (None, InvalidTable, [None]), "one": (4, InvalidState, [4]), "other": (True, InvalidState, [True])}
        self.fails_in_sequence(states_alike, right, wrong)
        self.fails_for_each(InvalidTable, not_of(Table), states_alike, right, "table")


class TestRules(Checks, unittest.TestCase):
    def greatest_alike(self, one, other):
        return all(search_models.greatest(one.gauge, f) == search_models.greatest(other.gauge, f) for f in range(1, 4))

    def unlike_at(self, one, other, f):
        """Whether unlike sets are asked at a fineness, by looking through all names and next signs."""
        plan = one.gauge.area.plan
        phase = f % len(plan)
        if phase not in graph_models.taken(one.gauge):
            return False
        lists = {tuple(graph_models.list_of(rule, phase, sign) for rule in (one, other)) for sign in range(plan.signs(phase))}
        for name in models.all_names(plan, f):
            for moves, others in lists:
                if set(graph_models.made_names(one, name, moves)) != set(graph_models.made_names(other, name, others)):
                    return True
        return False

    def check(self, one, other):
        """What is told of two rules; whether they are alike."""
        told = rules_alike(one, other)
        self.assertIs(rules_alike(other, one), told)
        shown = parting(one, other)
        self.assertIs(shown is None, told)
        if self.greatest_alike(one, other):
            for f in range(1, 5):
                if few_names(one.table.plan, f, 150) and self.unlike_at(one, other, f):
                    self.assertIs(told, False)
        else:
            self.assertIs(told, False)
        if shown is not None:
            place, d = shown
            self.assertIs(shown.__class__, tuple)
            self.are_ratios(place, [fraction(number) for number in place])
            self.is_ratio(d, fraction(d))
            self.assertNotEqual(set(one(place, d)), set(other(place, d)))
            self.assertIs(is_parting(one, other, shown), True)
            self.assertIs(is_parting(other, one, shown), True)
        return told

    def test_rules_of_all_sorts(self):
        for at, rule in enumerate(some_rules(36)):
            plan = rule.table.plan
            self.assertIs(self.check(rule, rule), True)
            looks = {**{(0, sign): rule.base_moves() for sign in range(0, plan.signs(0), 2)}, **rule.looks()}
            again = Rule(rule.gauge, rule.table, rule.base_moves(), edges=rule.edges, looks=looks)
            self.assertIs(self.check(rule, again), True)
            self.check(rule, rule.with_edges(EDGES[at % 4]))
            self.check(rule, rule.without_looks())
            self.check(rule, rule.with_table(spoiled(plan, at)))
            self.check(rule, rule - [MOVES[at % 9]])
            self.check(rule, rule.with_look(at % len(plan), 0, MOVES[at % 5:]))

    def test_tables_that_are_written_otherwise(self):
        for rule in some_rules(40):
            plan = rule.table.plan
            if tables_alike(rule.table, Table.right(plan)):
                self.assertIs(self.check(rule, rule.with_table(written_otherwise(plan))), True)
            self.assertIs(rule == rule.with_table(written_otherwise(plan)), False)

    def test_kinds_and_distances(self):
        one = Rule.whole(Gauge(AREA, 1, 1, "box"))
        self.assertIs(self.check(one, Rule.whole(Gauge(AREA, 1, 1, "sum"))), True)
        # Only the shorter side decides, as long as the other one reaches as far.
        self.assertIs(self.check(one, Rule.whole(Gauge(AREA, Ratio(1, 2), 1, "sum"))), True)
        self.assertIs(self.check(one, Rule.whole(Gauge(AREA, Ratio(499, 1000), 1, "box"))), False)
        self.assertIs(self.check(one, Rule.whole(Gauge(AREA, 1, Ratio(1, 2), "box"))), False)
        # Sides that are alike only at each second fineness.
        area = Map(HALVES, 8, 4)
        gauges = [Gauge(area, east, north, "box") for east, north in ((1, 1), (Ratio(1, 2), 1), (1, Ratio(1, 2)))]
        told = [self.check(Rule.whole(one), Rule.whole(other)) for one, other in itertools.product(gauges, repeat=2)]
        self.assertEqual(told, [True, False, False, False, True, False, False, False, True])

    def test_moves_that_make_nothing_more(self):
        """A move that is stopped everywhere, or makes what another one makes, does not part two rules."""
        rule = Rule(GAUGE, same(SQUARES), [STAY])
        self.assertIs(self.check(rule, rule | MOVES), True)
        goes = Table(SQUARES, [[[(sign, 0) for sign in range(4)]]], (0,) * 4)
        stops = Rule(GAUGE, goes, [STAY, (1, 0)], edges=("stop", "seam"))
        self.assertIs(self.check(stops, stops - [(1, 0)]), True)
        moves = Table(SQUARES, [[[(3 - sign, 0) for sign in range(4)]]], (0,) * 4)
        stops = Rule(GAUGE, moves, [STAY, (1, 0)], edges=("stop", "seam"))
        self.assertIs(self.check(stops, stops - [(1, 0)]), True)
        self.assertIs(self.check(stops, stops.with_edges(("seam", "seam"))), False)
        # On one closed column or row of two cells both moves make the same, but not at the finenesses behind.
        self.assertIs(self.check(WHOLE, WHOLE - [(1, 0)]), False)

    def test_next_signs_that_no_place_at_a_taken_fineness_has(self):
        gauge = Gauge(Map(HALVES, 8, 8), 1, 1, "box")
        rule = Rule.whole(gauge)
        self.assertEqual(gauge.taken(), [0])
        self.assertIs(self.check(rule, rule.with_look(1, 0, [STAY])), True)
        self.assertIs(self.check(rule, rule.with_look(0, 0, [STAY])), False)

    def test_partings_by_looks(self):
        rule = WHOLE.with_look(0, 2, [STAY, (1, 1)])
        self.assertIs(self.check(WHOLE, rule), False)
        place, d = parting(WHOLE, rule)
        self.assertEqual(models.name_at(AREA, place, rule.gauge(d) + 1)[-1], 2)
        self.assertIs(self.check(WHOLE, least_lists(GAUGE)), False)

    def test_values_that_are_partings_and_not(self):
        other = WHOLE - [(1, 0)]
        place, d = parting(WHOLE, other)
        self.assertIs(is_parting(value=Row((Row(place), d)), other=other, rule=WHOLE), True)
        self.assertIs(is_parting(WHOLE, WHOLE, (place, d)), False)
        self.assertIs(is_parting(WHOLE, other, (place, 1000)), False)
        found = odd_values() + [0, "ab", Alike(), [place, d], (place,), (place, d, 0), (d, place)]
        found = found + [(value, d) for value in wrong_places(AREA)] + [(place, value) for value in wrong_distances()]
        for value in found:
            self.assertIs(is_parting(WHOLE, other, value), False, value)

    def test_distances_beyond_a_thousand_signs(self):
        small = ratio(search_models.greatest(GAUGE, 1000))
        other = WHOLE - [(1, 0)]
        half = Rule.whole(GAUGE * Ratio(1, 2))
        for d, told in ((small, True), (small.over(2), False), (small.over(10 ** 30), False)):
            self.assertIs(is_parting(WHOLE, other, ((0, 0), d)), told)
        # By the one of both the distance has 1,000 signs, by the other one 999.
        self.assertEqual((WHOLE.gauge(small), half.gauge(small)), (1000, 999))
        self.assertIs(is_parting(WHOLE, half, ((0, 0), small)), True)
        self.assertIs(is_parting(half, WHOLE, ((0, 0), small.over(2))), False)

    def test_wrong_rules(self):
        right = {"rule": WHOLE, "other": WHOLE, "value": None}
        for action in (rules_alike, parting, is_parting):
            names = ["rule", "other", "value"] if action is is_parting else ["rule", "other"]
            self.has_parameters(action, *names)
            given = {name: right[name] for name in names}
            for name in ("rule", "other"):
                self.fails_for_each(InvalidRule, not_of(Rule) + [GAUGE], action, given, name)
            wrong = {"rule": (None, InvalidRule, [None]), "other": (0, InvalidRule, [0])}
            self.fails_in_sequence(action, given, wrong)
            for area in (Map(SQUARES, 8, 4), Map(SQUARES, 8, 5, closed=["east"]), Map(HALVES, 8, 4, closed=["east"])):
                with self.assertRaises(OtherMap) as caught:
                    action(**{**given, "other": Rule.whole(Gauge(area, 1, 1, "box"))})
                self.assertEqual((caught.exception.one, caught.exception.other), (AREA, area))
            # Equal maps need not be the same one.
            again = Rule.whole(Gauge(Map(Plan.squares(2), 8, 4, closed=["east"]), 1, 1, "box"))
            action(**{**given, "other": again})

    def test_too_many_states(self):
        for one, other in ((OWN, crowded(JUST)), (crowded(JUST), OWN)):
            self.assertIs(rules_alike(one, other), False)
            self.assertIs(is_parting(one, other, parting(one, other)), True)
        more = crowded(MORE)
        shown = parting(OWN, crowded(JUST))
        for one, other in ((OWN, more), (more, OWN), (OWN | [(1, 0)], more), (more, crowded(JUST))):
            for action in (rules_alike, parting):
                self.fails(TooMany, ["states", 1000], action, one, other)
        self.assertIs(is_parting(OWN, more, shown), set(OWN(*shown)) != set(more(*shown)))
        # What is told of the distances alone needs no states.
        near = Rule(WIDE * Ratio(1, 2), TABLE, [STAY])
        self.assertIs(rules_alike(near, more), False)
        self.assertIs(is_parting(near, more, parting(near, more)), True)

    def test_just_a_thousand_states(self):
        """The comparison (0, (0, 0), FEW) has just so many states, reckoned by themselves."""
        for entries, many in ((JUST, 1000), (MORE, 1001)):
            rule = crowded(entries)
            rows = [(0, graph_models.start(rule, (0, (0, 0), FEW))[3])]
            there = set(rows)
            for _, alive in rows:
                for sign in range(4):
                    left = [(move, *graph_models.made(rule, 0, sign, stands)) for move, stands in alive]
                    state = (0, tuple((move, stands) for move, made, stands in left if made == sign))
                    if state not in there:
                        there.add(state)
                        rows.append(state)
            self.assertEqual(len(rows), many)


if __name__ == "__main__":
    unittest.main()
