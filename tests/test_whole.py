"""What the document promises over the whole program [2], [4]: facts that go through several of its files."""

import inspect
import itertools
import random
import unittest
from fractions import Fraction

from movecells.alike import asks_twice, fault, is_parting, least_states, once_from, parting, rules_alike, tables_alike, twice
from movecells.bounds import far_bound, idle, is_straight, least_lists, most_in_vain, needed, spare
from movecells.desk import Desk
from movecells.gauges import Gauge
from movecells.graphs import following, is_bad, is_state, is_target, start, states, targets
from movecells.judge import is_claim, is_paper, is_true, paper_for
from movecells.maps import Map
from movecells.missing import closed_lists, fewest_signs, is_closed_paper, is_miss, missing, missing_by, misses_nothing
from movecells.names import begins_with, name_of, names
from movecells.places import is_in, name_at
from movecells.plans import Plan
from movecells.ratios import Ratio
from movecells.rules import Rule
from movecells.stores import Store
from movecells.tables import Table
from movecells.texts import map_text, plan_text, read_map, read_plan, read_rule, read_table, rule_text, table_text
from tests import graph_models, models, search_models
from tests.graph_models import STAY, some_rules, written_otherwise
from tests.models import MOVES, fraction, ratio
from tests.test_graphs import TARGET, WHOLE


def turned_moves(moves):
    return [(j, i) for i, j in moves]


def turned(rule):
    """The rule with the axes exchanged. Its steps are done in the other sequence, so its table must be the right one."""
    gauge = rule.gauge
    other = Gauge(gauge.area.turned(), *gauge.reaches[::-1], gauge.kind)
    looks = {key: turned_moves(moves) for key, moves in rule.looks().items()}
    table = Table.right(other.area.plan)
    return Rule(other, table, turned_moves(rule.base_moves()), edges=rule.edges[::-1], looks=looks)


def right_rules(many):
    """Rules of all sorts with the right table."""
    return [rule.with_table(Table.right(rule.table.plan)) for rule in some_rules(many)]


def places_of(area, rnd, many):
    """Places at borders, close to them, and anywhere."""
    found = rnd.sample(models.corners(area, 2), many)
    for _ in range(many):
        found.append(tuple(ratio(length * Fraction(rnd.randrange(720), 720)) for length in models.lengths_of(area)))
    return found


def distances_of(gauge, rnd, many):
    """Distances at the greatest ones, close to them, and between."""
    found = []
    for _ in range(many):
        d = search_models.greatest(gauge, rnd.randrange(1, 7)) * rnd.choice((1, 2, Fraction(999, 1000), Fraction(1001, 1000)))
        found.append(ratio(d))
    return found


class TestGuarantees(unittest.TestCase):
    def test_names(self):
        """Each place lies in just one cell of each fineness, and a cell in those whose names begin its own."""
        rnd = random.Random(1)
        for area in models.sample_maps()[::9]:
            for place in places_of(area, rnd, 3):
                own = name_at(area, place, 3)
                for f in (0, 1, 2):
                    inside = [name for name in names(area.plan, f) if is_in(area, place, name)] if f < 2 else [own[:f]]
                    self.assertEqual(inside, [own[:f]])
                    self.assertIs(begins_with(area.plan, own, own[:f]), True)

    def test_none_missed(self):
        rnd = random.Random(2)
        seen = {True: 0, False: 0}
        for rule in some_rules(40):
            area = rule.gauge.area
            told = misses_nothing(rule)
            store = Store(rule)
            places = places_of(area, rnd, 12)
            for at, place in enumerate(places):
                store["w" + "abcdefghijklmnopqrstuvwxyz"[at]] = place
            for place in places[::3]:
                for d in distances_of(rule.gauge, rnd, 6):
                    missed = store.missed(place, d)
                    self.assertEqual(missed, [word for word in store.truth(place, d) if word not in store.near(place, d)])
                    seen[told] += len(missed)
                    for word in missed:
                        self.assertIs(is_miss(rule, (place, store[word], d)), True)
                        self.assertLessEqual(fewest_signs(rule), rule.gauge(d))
        self.assertEqual(seen[True], 0)
        self.assertGreater(seen[False], 0)

    def test_once(self):
        rnd = random.Random(3)
        for rule in some_rules(40):
            least = once_from(rule)
            for place in places_of(rule.gauge.area, rnd, 4):
                for d in distances_of(rule.gauge, rnd, 6):
                    asked = rule(place, d)
                    if len(asked) > len(set(asked)):
                        self.assertTrue(least is None or rule.gauge(d) < least)
                        self.assertIs(asks_twice(rule, rule.gauge(d)), True)
            if least is not None and least > 1:
                place, d = twice(rule, least - 1)
                self.assertEqual(rule.gauge(d), least - 1)

    def test_alike(self):
        rnd = random.Random(4)
        for rule in some_rules(30):
            plan = rule.table.plan
            others = [Rule(rule.gauge, rule.table, rule.base_moves()[::-1], edges=rule.edges, looks=rule.looks())]
            if tables_alike(rule.table, Table.right(plan)):
                others.append(rule.with_table(written_otherwise(plan)))
            for other in others:
                self.assertIs(rules_alike(rule, other), True)
                for place in places_of(rule.gauge.area, rnd, 4):
                    for d in distances_of(rule.gauge, rnd, 4):
                        self.assertEqual(set(rule(place, d)), set(other(place, d)))

    def test_far_bounds_and_in_vain(self):
        rnd = random.Random(5)
        for rule in right_rules(40):
            if not is_straight(rule):
                self.assertEqual((far_bound(rule), most_in_vain(rule)), (None, None))
                continue
            gauge = rule.gauge
            bound, most = fraction(far_bound(rule)), most_in_vain(rule)
            for place in places_of(gauge.area, rnd, 4):
                for d in distances_of(gauge, rnd, 4):
                    if most is not None:
                        self.assertLessEqual(len(rule.in_vain(place, d)), most)
                    for name in rule(place, d):
                        (west, _), (south, _) = models.borders(gauge.area, name)
                        self.assertLess(models.distance(gauge.area, gauge.kind, place, (west, south)), bound * fraction(d))

    def test_both_ways(self):
        for rule in right_rules(20):
            claims = [(word, rule) for word in ("misses nothing", "misses")] + [(word, rule.table) for word in ("right", "faulty")]
            claims = claims + [(word, rule, least_lists(rule.gauge)) for word in ("alike", "unlike")]
            claims = claims + [(word, rule, f) for word in ("twice", "once") for f in (1, 2)]
            papers = [paper_for(claim) for claim in claims]
            for claim in claims:
                self.assertIs(is_claim(claim), True)
                self.assertEqual(any(is_paper(claim, paper) for paper in papers), is_true(claim))


class TestTurnedAndScaled(unittest.TestCase):
    def test_turned(self):
        for rule in right_rules(60):
            other = turned(rule)
            self.assertEqual(turned(other), rule)
            for action in (misses_nothing, fewest_signs, once_from, is_straight, far_bound, most_in_vain):
                self.assertEqual(action(rule), action(other), action)
            self.assertEqual(sorted((phase, (j, i)) for phase, (i, j) in idle(rule)), idle(other))
            found = sorted((phase, (j, i), tuple(sorted(turned_moves(moves)))) for phase, (i, j), moves in targets(rule))
            self.assertEqual(found, targets(other))
            told = missing(rule)
            if told is not None:
                place, one, d = told
                self.assertIs(is_miss(other, (place[::-1], one[::-1], d)), True)
            told = twice(rule, 1)
            if told is not None:
                self.assertIs(is_paper(("twice", other, 1), (told[0][::-1], told[1])), True)

    def test_scaled(self):
        for rule, number in zip(some_rules(60), itertools.cycle((3, Ratio(2, 7), 10 ** 30))):
            gauge = rule.gauge
            area = gauge.area * number
            other = Rule(Gauge(area, *gauge.reaches, gauge.kind), rule.table, rule.base_moves(), edges=rule.edges, looks=rule.looks())
            for action in (
                targets, misses_nothing, closed_lists, fewest_signs, missing_by, once_from, idle, is_straight, far_bound, most_in_vain,
            ):
                self.assertEqual(action(rule), action(other), action)
            told = missing(rule)
            if told is not None:
                place, one, d = told
                scaled = (tuple(part * number for part in place), tuple(part * number for part in one), d * number)
                self.assertIs(is_miss(other, scaled), True)
                if number != 1:
                    self.assertEqual(rule.gauge(d), other.gauge(d * number))

    def test_rounds_told_again(self):
        """A plan whose rounds are told twice, one behind the other, is another plan with the same cells."""
        for rounds in ([[("east", 2), ("north", 2)]], [[("north", 3), ("east", 3)]]):
            for closed, kind, reach in itertools.product(models.CLOSED, ("box", "sum"), (1, Ratio(1, 3))):
                rules = []
                for many in (1, 2, 3):
                    gauge = Gauge(Map(Plan(*rounds * many), 8, 5, closed=closed), reach, 1, kind)
                    whole = Rule.whole(gauge)
                    looks = {(phase, 1): [STAY, (1, 0)] for phase in range(many)}
                    rules.append([
                        whole, whole - [(0, 1)], whole.with_edges(("stop", "seam")), least_lists(gauge),
                        Rule(gauge, whole.table, MOVES, edges=whole.edges, looks=looks),
                    ])
                for one, two, three in zip(*rules):
                    self.assertEqual(list(names(one.table.plan, 2)), list(names(two.table.plan, 2)))
                    for action in (misses_nothing, fewest_signs, once_from, is_straight, far_bound, most_in_vain):
                        self.assertEqual([action(two), action(three)], [action(one)] * 2, action)
                    self.assertEqual({move for _, move in idle(one)}, {move for _, move in idle(two)})
                    self.assertEqual(least_states(one.table), least_states(three.table))
                    told = missing(one)
                    if told is not None:
                        self.assertIs(is_miss(two, told) and is_miss(three, told), True)

    def test_rounds_in_one(self):
        """Two rounds of one cut each, one taken alone, tell the same cells at each second fineness as one of both cuts."""
        one = Plan([("east", 2), ("north", 2)])
        two = Plan([("east", 2)], [("north", 2)])
        self.assertEqual([name_of(one, 1, pair) for pair in ((0, 1), (1, 0))], [(1,), (2,)])
        self.assertEqual([name_of(two, 2, pair) for pair in ((0, 1), (1, 0))], [(0, 1), (1, 0)])
        for closed in models.CLOSED:
            rules = [Rule.whole(Gauge(Map(plan, 8, 8, closed=closed), 1, 1, "box")) for plan in (one, two)]
            self.assertEqual([misses_nothing(rule) for rule in rules], [True, True])
            self.assertEqual([misses_nothing(rule - [(1, 1)]) for rule in rules], [False, False])
            self.assertEqual(fewest_signs(rules[1] - [(1, 1)]), 2 * fewest_signs(rules[0] - [(1, 1)]))


class TestTwiceTheSame(unittest.TestCase):
    def calls(self, rule):
        """Calls of all functions with right arguments, by their names."""
        gauge, area, table, plan = rule.gauge, rule.gauge.area, rule.table, rule.table.plan
        target = targets(rule)[0]
        state = start(rule, target)
        found = [(action, {"rule": rule}) for action in (
            targets, misses_nothing, closed_lists, fewest_signs, missing_by, once_from, idle, is_straight, far_bound, most_in_vain,
            rule_text,
        )]
        found = found + [(action, {"rule": rule, "target": target}) for action in (start, states)]
        return found + [
            (is_target, {"rule": rule, "value": target}), (is_state, {"rule": rule, "target": target, "value": state}),
            (following, {"rule": rule, "target": target, "state": state, "sign": 0}),
            (is_bad, {"rule": rule, "target": target, "state": state}), (is_closed_paper, {"rule": rule, "value": closed_lists(rule)}),
            (is_miss, {"rule": rule, "value": missing(rule)}), (asks_twice, {"rule": rule, "f": 2}),
            (tables_alike, {"table": table, "other": Table.right(plan)}), (least_states, {"table": table}),
            (rules_alike, {"rule": rule, "other": least_lists(gauge)}), (needed, {"gauge": gauge, "phase": 0, "sign": 1}),
            (is_parting, {"rule": rule, "other": least_lists(gauge), "value": parting(rule, least_lists(gauge))}),
            (spare, {"rule": rule, "phase": 0, "sign": 1}), (least_lists, {"gauge": gauge}), (plan_text, {"plan": plan}),
            (map_text, {"area": area}), (table_text, {"table": table}), (read_plan, {"text": plan_text(plan)}),
            (read_map, {"text": map_text(area)}), (read_table, {"plan": plan, "text": table_text(table)}),
            (read_rule, {"text": rule_text(rule)}), (is_claim, {"value": ("misses", rule)}), (is_true, {"claim": ("right", table)}),
            (is_paper, {"claim": ("faulty", table), "value": fault(table)}),
        ]

    def test_the_same_asked_again(self):
        """The same is told each time, by position and by names, and of objects that are made anew; nothing is changed."""
        for rule in some_rules(12):
            before = rule_text(rule)
            again = read_rule(before)
            for (action, given), (_, anew) in zip(self.calls(rule), self.calls(again)):
                self.assertEqual(list(inspect.signature(action).parameters), list(given))
                first = action(*given.values())
                if isinstance(first, (list, dict)):
                    self.assertEqual(first, action(**given))
                    self.assertIsNot(first, action(**given))
                    first = type(first)(first)
                self.assertEqual(action(**given), first)
                self.assertEqual(action(**anew), first)
            self.assertEqual(rule_text(rule), before)
            self.assertEqual(rule, again)

    def test_objects_that_are_read_behave_alike(self):
        rnd = random.Random(9)
        for rule in some_rules(12):
            again = read_rule(rule_text(rule))
            desks = [Desk(Store(rule)), Desk(Store(again))]
            for at, place in enumerate(places_of(rule.gauge.area, rnd, 6)):
                d = distances_of(rule.gauge, rnd, 1)[0]
                command = f"{place[0]} {place[1]}"
                word = "abcdefghijkl"[at]
                for text in (f"put {word} {command}", f"near {command} {d}", f"truth {command} {d}"):
                    self.assertEqual(desks[0].do(text), desks[1].do(text))
            self.assertEqual(desks[0].store, desks[1].store)

    def test_errors_change_nothing(self):
        """What is asked behind an error is told as before."""
        told = states(WHOLE, TARGET)
        for wrong in (None, 0, (), (0, STAY, TARGET[2])):
            with self.assertRaises(ValueError):
                states(WHOLE, wrong)
        self.assertEqual(states(WHOLE, TARGET), told)
        self.assertEqual(graph_models.all_states(WHOLE, TARGET), told)


if __name__ == "__main__":
    unittest.main()
