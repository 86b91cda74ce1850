"""movecells/rules.py: which names are asked, and what is missed, told and asked in vain [2], [61], [62], [63]."""

import itertools
import unittest
from collections.abc import Hashable
from fractions import Fraction

from movecells.errors import InvalidDistance, InvalidEdges, InvalidGauge, InvalidLooks, InvalidMoves, InvalidPhase
from movecells.errors import InvalidPlace, InvalidPlaces, InvalidSign, InvalidTable, OtherPlan, TooMany
from movecells.gauges import Gauge
from movecells.maps import Map
from movecells.plans import Plan
from movecells.ratios import Ratio
from movecells.rules import Rule
from movecells.tables import Table
from tests import models, search_models
from tests.models import MOVES, fraction, ratio, ratios
from tests.search_models import odd_table
from tests.support import Alike, Checks, Row, Whole, Word, no_counts_below, not_of, odd_values
from tests.test_gaps import wrong_distances
from tests.test_places import wrong_places
from tests.test_steps import EDGES, wrong_edges, wrong_moves

SQUARES = Plan.squares(2)
MIXED = Plan([("east", 2), ("north", 2)], [("east", 3), ("north", 3)])
AREA = Map(SQUARES, 8, 4, closed=["east"])
GAUGE = Gauge(AREA, 1, 1, "box")
TABLE = Table.right(SQUARES)
WHOLE = Rule.whole(GAUGE)
STAY = (0, 0)
FEW = [(0, 1), (0, 0), (-1, 0)]
SMALL = Ratio(1, 10 ** 58)


def wrong_lists(*, whole=True):
    """Pairs of wrong lists of moves, and the positions that their errors tell."""
    found = [(value, None) for value in odd_values() + [0, "x", {STAY: 1}, iter([STAY])] if not isinstance(value, (list, tuple))]
    for value in wrong_moves():
        found = found + [([value], 0), ([STAY, (1, 0), value, value], 2), ((value, None, STAY), 0), ([STAY, value, STAY], 1)]
    found = found + [([STAY, STAY], 1), ([(1, 0), STAY, (1, 0), None], 2), (MOVES + [(1, 1)], 9), (((0, 1), (0, 1)), 1)]
    if whole:
        found = found + [([], None), ((), None), ([(1, 0)], None), ([move for move in MOVES if move != STAY], None)]
    return found


def wrong_looks(plan):
    """Values that are no looks of the plan."""
    found = [value for value in odd_values() if value is not None and value != {}] + [0, 1, [((0, 0), [STAY])], "looks"]
    keys = [(phase, 0) for phase in no_counts_below(len(plan)) if isinstance(phase, Hashable)]
    keys = keys + [(0, sign) for sign in no_counts_below(plan.signs(0)) if isinstance(sign, Hashable)]
    keys = keys + [(len(plan) - 1, plan.signs(len(plan) - 1)), 0, None, True, "ab", (), (0,), (0, 0, 0), frozenset([0])]
    for key in keys:
        found = found + [{key: [STAY]}]
        if key not in [(0, 0), (0, 1)]:
            found = found + [{(0, 0): [STAY], key: [STAY]}]
    return found + [{(0, 1): value} for value, _ in wrong_lists()] + [{(0, 1): [STAY], (0, 2): [(1, 1)]}]


def some_rules():
    """Rules with right tables and odd ones, all sorts of edges, moves and looks."""
    found = []
    for at, gauge in enumerate(search_models.sample_gauges()):
        plan = gauge.area.plan
        found.append(Rule.whole(gauge))
        moves = sorted(FEW + MOVES[at % 9:][:at % 4], key=lambda move: (move[0] * at, move))
        moves = [move for k, move in enumerate(moves) if move not in moves[:k]]
        looks = {(phase, (at * 3) % plan.signs(phase)): MOVES[at % 4:5 + at % 4][::-1] for phase in range(len(plan))}
        looks = {key: looks[key] for key in sorted(looks, reverse=True)}
        found.append(Rule(gauge, odd_table(plan, salt=at), moves, edges=EDGES[at % 4], looks=looks))
        found.append(Rule(gauge, Table.right(plan), moves, edges=EDGES[at % 3]))
    return found


class RuleCase(Checks, unittest.TestCase):
    def is_moves(self, told, moves):
        self.assertIs(told.__class__, list)
        self.assertEqual(told, sorted(moves))
        for move in told:
            self.is_name(move, move)


class TestConstructor(RuleCase):
    def test_what_is_passed_is_told(self):
        moves = [(1, 1), (0, 0), (-1, 0)]
        for edges, made in itertools.product(EDGES, (list, tuple)):
            looks = {(1, 8): made([(0, 0), (-1, 1)]), (0, 3): made([(1, 0), (0, 0), (0, -1)]), (0, 0): made([STAY])}
            gauge = Gauge(Map(MIXED, 3, 3), 1, 1, "sum")
            rule = Rule(gauge, Table.right(MIXED), made(moves), edges=edges, looks=looks)
            self.assertEqual((rule.gauge, rule.table, rule.edges), (gauge, Table.right(MIXED), edges))
            self.assertIs(rule.edges.__class__, tuple)
            self.is_moves(rule.base_moves(), moves)
            self.assertIs(rule.looks().__class__, dict)
            self.assertEqual(list(rule.looks().items()), [
                ((0, 0), [(0, 0)]), ((0, 3), [(0, -1), (0, 0), (1, 0)]), ((1, 8), [(-1, 1), (0, 0)]),
            ])
            for phase in range(2):
                for sign in range(MIXED.signs(phase)):
                    self.is_moves(rule.moves(phase, sign), looks.get((phase, sign), moves))

    def test_without_edges_and_looks(self):
        rule = Rule(GAUGE, TABLE, [STAY])
        self.assertEqual((rule.edges, rule.looks(), rule.base_moves()), (("seam", "seam"), {}, [STAY]))
        self.assertEqual(rule, Rule(GAUGE, TABLE, [STAY], edges=("seam", "seam"), looks=None))
        self.assertEqual(rule, Rule(GAUGE, TABLE, [STAY], looks={}))

    def test_by_names(self):
        rule = Rule(looks={(0, 1): [STAY]}, edges=("stop", "seam"), moves=FEW, table=TABLE, gauge=GAUGE)
        self.assertEqual(rule, Rule(GAUGE, TABLE, FEW, edges=("stop", "seam"), looks={(0, 1): [STAY]}))
        self.has_parameters(Rule, "gauge", "table", "moves", "edges", "looks")
        for given in ((("seam", "seam"),), (("seam", "seam"), None)):
            with self.assertRaises(TypeError):
                Rule(GAUGE, TABLE, FEW, *given)

    def test_wrong_arguments(self):
        right = {"gauge": GAUGE, "table": TABLE, "moves": FEW}
        self.fails_for_each(InvalidGauge, not_of(Gauge) + [AREA], Rule, right, "gauge")
        self.fails_for_each(InvalidTable, not_of(Table) + [SQUARES], Rule, right, "table")
        for moves, position in wrong_lists():
            self.fails(InvalidMoves, [position], Rule, GAUGE, TABLE, moves)
        for edges in wrong_edges():
            self.fails(InvalidEdges, [edges], Rule, GAUGE, TABLE, FEW, edges=edges)
        for looks in wrong_looks(SQUARES):
            self.fails(InvalidLooks, [looks], Rule, GAUGE, TABLE, FEW, looks=looks)

    def test_looks_for_other_rounds(self):
        gauge = Gauge(Map(MIXED, 3, 3), 1, 1, "sum")
        Rule(gauge, Table.right(MIXED), FEW, looks={(0, 3): FEW, (1, 8): FEW})
        for key in ((0, 4), (1, 9), (2, 0)):
            looks = {(0, 3): FEW, key: FEW}
            self.fails(InvalidLooks, [looks], Rule, gauge, Table.right(MIXED), FEW, looks=looks)

    def test_other_plans(self):
        other = Table.right(MIXED)
        for table in (other, Table.right(Plan([("north", 2), ("east", 2)]))):
            with self.assertRaises(OtherPlan) as caught:
                Rule(GAUGE, table, FEW)
            self.assertEqual((caught.exception.one, caught.exception.other), (SQUARES, table.plan))
        with self.assertRaises(OtherPlan):
            Rule(GAUGE, other, FEW, looks={(1, 8): FEW})
        looks = {(2, 0): FEW}
        self.fails(InvalidLooks, [looks], Rule, GAUGE, other, FEW, looks=looks)
        looks = {(0, 5): FEW}
        self.fails(InvalidLooks, [looks], Rule, Gauge(Map(MIXED, 1, 1), 1, 1, "sum"), TABLE, FEW, looks=looks)

    def test_several_errors_at_once(self):
        wrong = {
            "gauge": (AREA, InvalidGauge, [AREA]), "table": (None, InvalidTable, [None]), "moves": ([], InvalidMoves, [None]),
            "edges": ("stop", InvalidEdges, ["stop"]), "looks": (0, InvalidLooks, [0]),
        }
        right = {"gauge": GAUGE, "table": Table.right(MIXED), "moves": FEW, "edges": ("seam", "stop"), "looks": None}
        for many in range(1, 6):
            for names in itertools.combinations(wrong, many):
                given = {name: wrong[name][0] if name in names else right[name] for name in right}
                self.fails(wrong[names[0]][1], wrong[names[0]][2], Rule, **given)
        with self.assertRaises(OtherPlan):
            Rule(**right)

    def test_passed_values_stay_and_are_copied(self):
        moves, one = [(1, 0), (0, 0)], [(0, 1), (0, 0)]
        looks = {(0, 2): one, (0, 1): one}
        rule = Rule(GAUGE, TABLE, moves, looks=looks)
        self.assertEqual((moves, looks), ([(1, 0), (0, 0)], {(0, 2): [(0, 1), (0, 0)], (0, 1): [(0, 1), (0, 0)]}))
        self.assertEqual(list(looks), [(0, 2), (0, 1)])
        moves.clear()
        one.append((5, 5))
        looks[(0, 3)] = 5
        self.assertEqual(rule.base_moves(), [(0, 0), (1, 0)])
        self.assertEqual(rule.looks(), {(0, 1): [(0, 0), (0, 1)], (0, 2): [(0, 0), (0, 1)]})

    def test_what_is_told_is_plain(self):
        moves = [Row((Whole(1), 0)), Row((0, 0))]
        rule = Rule(GAUGE, TABLE, moves, edges=Row((Word("seam"), Word("stop"))), looks={Row((0, 3)): moves})
        for told in (rule.base_moves(), rule.moves(0, 3), (rule | moves).base_moves()):
            self.is_moves(told, [(0, 0), (1, 0)])
        self.assertEqual([key.__class__ for key in rule.looks()], [tuple])
        self.assertEqual([rule.edges.__class__, rule.edges[0].__class__, rule.edges], [tuple, str, ("seam", "stop")])
        self.assertEqual(rule.told({Word("b"): (0, 0)}, Row((0, 0)), Whole(1)), ["b"])

    def test_what_is_told_is_new_each_time(self):
        rule = Rule(GAUGE, TABLE, FEW, looks={(0, 2): FEW, (0, 1): FEW})
        told = rule.looks()
        self.assertEqual(len({id(value) for value in [told, *told.values(), rule.looks(), *rule.looks().values()]}), 6)
        told[(0, 1)].clear()
        told.pop((0, 2))
        for value in (rule.base_moves(), rule.moves(0, 0), rule.moves(0, 2)):
            value.clear()
        self.assertEqual(rule, Rule(GAUGE, TABLE, FEW, looks={(0, 2): FEW, (0, 1): FEW}))
        self.is_moves(rule.moves(0, 2), FEW)
        self.is_moves(rule.moves(0, 0), FEW)

    def test_everything_listed_stands_in_the_class(self):
        methods = "__init__ moves base_moves looks with_table with_edges with_look without_looks __or__ __sub__ __eq__"
        methods = methods.split() + "__call__ misses told missed in_vain".split()
        properties = ("gauge", "table", "edges")
        self.stands_in_class(Rule, "movecells.rules", methods=methods, properties=properties, class_methods=("whole",))
        for name in properties:
            with self.assertRaises(AttributeError):
                setattr(WHOLE, name, None)
        for action, parameters in (
            (WHOLE.moves, ["phase", "sign"]), (WHOLE.base_moves, []), (WHOLE.looks, []), (WHOLE.with_table, ["table"]),
            (WHOLE.with_edges, ["edges"]), (WHOLE.with_look, ["phase", "sign", "moves"]), (WHOLE.without_looks, []),
            (WHOLE, ["place", "d"]), (WHOLE.misses, ["place", "other", "d"]), (WHOLE.told, ["places", "place", "d"]),
            (WHOLE.missed, ["places", "place", "d"]), (WHOLE.in_vain, ["place", "d"]), (Rule.whole, ["gauge"]),
        ):
            self.has_parameters(action, *parameters)


class TestWhole(RuleCase):
    def test_whole_rules(self):
        for gauge in search_models.sample_gauges():
            rule = Rule.whole(gauge)
            self.assertIs(rule.__class__, Rule)
            self.assertEqual((rule.gauge, rule.table), (gauge, Table.right(gauge.area.plan)))
            self.is_moves(rule.base_moves(), MOVES)
            self.assertEqual(rule.looks(), {})
            self.assertEqual(rule.edges, tuple("seam" if axis in gauge.area.closed else "stop" for axis in ("east", "north")))
        self.assertEqual(Rule.whole(gauge=GAUGE), Rule(GAUGE, TABLE, MOVES, edges=("seam", "stop")))

    def test_wrong_gauges(self):
        self.fails_for_each(InvalidGauge, not_of(Gauge) + [AREA, TABLE], Rule.whole, {}, "gauge")


class TestMoves(RuleCase):
    def test_wrong_arguments(self):
        rule = Rule.whole(Gauge(Map(MIXED, 3, 3), 1, 1, "sum"))
        right = {"phase": 1, "sign": 8}
        for action, given in ((rule.moves, right), (rule.with_look, {**right, "moves": FEW})):
            self.fails_for_each(InvalidPhase, no_counts_below(2), action, given, "phase")
            self.fails_for_each(InvalidSign, no_counts_below(9), action, given, "sign")
            wrong = {"phase": (2, InvalidPhase, [2]), "sign": (9, InvalidSign, [9])}
            if "moves" in given:
                wrong["moves"] = (0, InvalidMoves, [None])
            self.fails_in_sequence(action, given, wrong)
            self.fails(InvalidSign, [4], action, **{**given, "phase": 0, "sign": 4})
        for moves, position in wrong_lists():
            self.fails(InvalidMoves, [position], rule.with_look, 1, 8, moves)


class TestOtherRules(RuleCase):
    def test_with_table(self):
        rule = Rule(GAUGE, TABLE, FEW, edges=("stop", "seam"), looks={(0, 3): [STAY]})
        other = odd_table(SQUARES)
        self.assertEqual(rule.with_table(table=other), Rule(GAUGE, other, FEW, edges=("stop", "seam"), looks={(0, 3): [STAY]}))
        self.assertEqual(rule.table, TABLE)
        self.fails_for_each(InvalidTable, not_of(Table) + [SQUARES], rule.with_table, {}, "table")
        for plan in (MIXED, Plan([("east", 2)], [("north", 2)]), Plan.squares(3)):
            with self.assertRaises(OtherPlan) as caught:
                rule.with_table(Table.right(plan))
            self.assertEqual((caught.exception.one, caught.exception.other), (SQUARES, plan))

    def test_with_edges(self):
        rule = Rule(GAUGE, TABLE, FEW, looks={(0, 3): [STAY]})
        for edges in EDGES:
            self.assertEqual(rule.with_edges(edges=edges), Rule(GAUGE, TABLE, FEW, edges=edges, looks={(0, 3): [STAY]}))
        self.assertEqual(rule.edges, ("seam", "seam"))
        self.fails_for_each(InvalidEdges, wrong_edges(), rule.with_edges, {}, "edges")

    def test_looks_more_and_fewer(self):
        rule = Rule(GAUGE, TABLE, FEW, edges=("stop", "seam"), looks={(0, 3): [STAY]})
        for moves in ([STAY], [(1, 1), STAY], tuple(MOVES)):
            for sign in range(4):
                told = rule.with_look(moves=moves, sign=sign, phase=0)
                looks = {(0, 3): [STAY], (0, sign): moves}
                self.assertEqual(told, Rule(GAUGE, TABLE, FEW, edges=("stop", "seam"), looks=looks))
                self.assertEqual(told.looks(), {key: sorted(looks[key]) for key in looks})
        self.assertEqual(rule.looks(), {(0, 3): [STAY]})
        self.assertEqual(rule.without_looks(), Rule(GAUGE, TABLE, FEW, edges=("stop", "seam")))
        self.assertEqual(rule.without_looks().without_looks().looks(), {})

    def test_moves_more(self):
        looks = {(0, 3): [STAY]}
        rule = Rule(GAUGE, TABLE, FEW, edges=("stop", "seam"), looks=looks)
        for moves in ([], (), [STAY], [(1, 1)], [(0, 1), (1, -1)], tuple(MOVES), MOVES[::-1]):
            told = rule | moves
            self.assertIs(told.__class__, Rule)
            self.is_moves(told.base_moves(), {*FEW, *moves})
            self.assertEqual((told.gauge, told.table, told.edges, told.looks()), (GAUGE, TABLE, ("stop", "seam"), looks))
        self.is_moves(rule.base_moves(), FEW)
        for moves, position in wrong_lists(whole=False):
            self.fails(InvalidMoves, [position], lambda: rule | moves)

    def test_moves_fewer(self):
        looks = {(0, 3): [(0, 1), STAY]}
        rule = Rule(GAUGE, TABLE, MOVES, edges=("stop", "seam"), looks=looks)
        for moves in ([], (), [STAY], [(1, 1)], [(0, 1), (1, -1), STAY], tuple(MOVES), MOVES[::-1]):
            told = rule - moves
            self.assertIs(told.__class__, Rule)
            self.is_moves(told.base_moves(), {*MOVES} - {*moves} | {STAY})
            self.assertEqual((told.gauge, told.table, told.edges, told.looks()),
                             (GAUGE, TABLE, ("stop", "seam"), {(0, 3): [(0, 0), (0, 1)]}))
        self.is_moves(rule.base_moves(), MOVES)
        self.is_moves((rule - [(1, 1)] - [(1, 1), (0, 1)] | [(1, 1)]).base_moves(), [move for move in MOVES if move != (0, 1)])
        for moves, position in wrong_lists(whole=False):
            self.fails(InvalidMoves, [position], lambda: rule - moves)


class TestEqual(RuleCase):
    def test_rules_that_differ_in_one_thing(self):
        looks = {(0, 1): FEW, (0, 2): [STAY]}
        rules = [
            Rule(GAUGE, TABLE, FEW, looks=looks), Rule(GAUGE * Ratio(1, 2), TABLE, FEW, looks=looks),
            Rule(GAUGE, odd_table(SQUARES), FEW, looks=looks), Rule(GAUGE, TABLE, FEW + [(1, 1)], looks=looks),
            Rule(GAUGE, TABLE, FEW, looks=looks, edges=("seam", "stop")), Rule(GAUGE, TABLE, FEW),
            Rule(GAUGE, TABLE, FEW, looks={(0, 1): FEW}), Rule(GAUGE, TABLE, FEW, looks={(0, 1): FEW, (0, 3): [STAY]}),
            Rule(GAUGE, TABLE, FEW, looks={(0, 1): [STAY], (0, 2): [STAY]}),
        ]
        for at, one in enumerate(rules):
            for position, other in enumerate(rules):
                self.assertIs(one == other, at == position)
                self.assertIs(one != other, at != position)
            for value in odd_values() + [GAUGE, TABLE, 0]:
                self.assertIs(one == value, False)
                if not isinstance(value, Alike):
                    self.assertIs(value == one, False)

    def test_whatever_the_sequence(self):
        one = Rule(GAUGE, TABLE, FEW, looks={(0, 1): FEW, (0, 2): [STAY, (1, 0)]})
        other = Rule(GAUGE, TABLE, tuple(FEW[::-1]), looks={(0, 2): ((1, 0), STAY), (0, 1): FEW[::-1]})
        self.assertIs(one == other, True)
        self.assertIs(one != other, False)
        self.assertEqual(list(one.looks()), list(other.looks()))


class TestAsked(RuleCase):
    def distances(self, gauge):
        found = [ratio(search_models.greatest(gauge, f)) for f in (1, 2, 3)]
        return found[:1] + [found[0] * 2, found[1] * Ratio(99, 100), found[2]]

    def test_all_sorts_of_rules(self):
        for rule in some_rules():
            for place in models.some(models.corners(rule.gauge.area, 2), 6):
                for d in self.distances(rule.gauge):
                    told = rule(place, d)
                    self.assertIs(told.__class__, list)
                    self.assertEqual(told, search_models.asked(rule, place, d))
                    for name in told:
                        self.is_name(name, name)

    def test_examples(self):
        self.assertEqual(WHOLE((0, 0), 2), [(2,), (3,), (0,), (1,), (2,), (3,)])
        self.assertEqual(WHOLE(d=3, place=(7, 3)), [()])
        self.assertEqual((WHOLE - MOVES)((7, 1), 1), [(2, 3)])
        self.assertEqual(WHOLE.with_edges(("stop", "stop"))((0, 0), 2), [(0,), (1,), (2,), (3,)])
        self.assertEqual(Rule(GAUGE, TABLE, [(1, 0), STAY])((7, 0), 1), [(2, 2), (0, 0)])

    def test_names_that_are_told_several_times(self):
        table = Table(SQUARES, [[[(2, None)] * 4]], (0, 0, 0, 0))
        rule = Rule(GAUGE, table, FEW + [(1, 1)])
        self.assertEqual(rule((0, 0), 2), [(2,), (0,), (2,), (2,)])
        self.assertEqual(rule((0, 0), 9), [()])

    def test_looks_by_the_next_sign(self):
        rule = Rule(GAUGE, TABLE, [STAY], looks={(0, 3): [STAY, (0, 1)], (0, 0): [STAY, (1, 0)]})
        self.assertEqual([rule(place, 2) for place in ((0, 0), (0, 1), (2, 0), (2, 1))], [
            [(0,), (2,)], [(0,)], [(0,)], [(0,), (1,)],
        ])

    def test_finenesses_up_to_a_thousand(self):
        d = WHOLE.gauge.greatest(1000)
        told = WHOLE((7, 3), d)
        self.assertEqual(len(told), 9)
        self.assertEqual({len(name) for name in told}, {1000})
        wrong = {"place": (0, InvalidPlace, [0]), "d": (0, InvalidDistance, [0])}
        self.fails_in_sequence(WHOLE, {"place": (0, 0), "d": d}, wrong)
        self.fails(TooMany, ["signs", 1000], WHOLE, (7, 3), d * Ratio(1, 2))
        self.fails(InvalidPlace, [None], WHOLE, None, d * Ratio(1, 2))

    def test_wrong_arguments(self):
        right = {"place": (0, 0), "d": 1}
        self.fails_for_each(InvalidPlace, wrong_places(AREA), WHOLE, right, "place")
        self.fails_for_each(InvalidDistance, wrong_distances(), WHOLE, right, "d")


class TestMissed(RuleCase):
    def cases(self):
        """Rules, places, a dict of places, distances, and the asked names."""
        for rule in some_rules()[::2]:
            area = rule.gauge.area
            some = models.some(models.corners(area, 2), 12)
            places = {"w" + "abcdefghijklmnop"[at]: place for at, place in reversed(list(enumerate(some)))}
            for place in some[::4]:
                for f in (1, 2):
                    d = ratio(search_models.greatest(rule.gauge, f))
                    for distance in (d, d * 2 + SMALL):
                        yield rule, places, place, distance, search_models.asked(rule, place, distance)

    def is_near(self, rule, place, other, d):
        return models.distance(rule.gauge.area, rule.gauge.kind, place, other) <= fraction(d)

    def test_all_sorts_of_rules(self):
        several = missing = 0
        for rule, places, place, d, asked in self.cases():
            own = {word: models.name_at(rule.gauge.area, places[word], len(asked[0]) if asked else 0) for word in places}
            if not asked:
                f = search_models.fineness(rule.gauge, d)
                own = {word: models.name_at(rule.gauge.area, places[word], f) for word in places}
            told = rule.told(places, place, d)
            self.assertIs(told.__class__, list)
            self.assertEqual(told, sorted(word for word in places for name in asked if own[word] == name))
            several += len(told) > len(set(told))
            missed = rule.missed(places, place, d)
            self.assertIs(missed.__class__, list)
            goal = [word for word in places if self.is_near(rule, place, places[word], d) and own[word] not in asked]
            self.assertEqual(missed, sorted(goal))
            missing += len(missed) > 0
            for word in places:
                self.assertIs(rule.misses(place, places[word], d), word in goal)
        self.assertGreater(several, 20)
        self.assertGreater(missing, 20)

    def test_in_vain(self):
        found = 0
        for rule, _, place, d, asked in self.cases():
            told = rule.in_vain(place, d)
            self.assertIs(told.__class__, list)
            goal = []
            for name in sorted(set(asked)):
                worth, is_had = models.way(rule.gauge.area, rule.gauge.kind, place, name)
                if worth > fraction(d) or worth == fraction(d) and not is_had:
                    goal.append(name)
            self.assertEqual(told, goal)
            for name in told:
                self.is_name(name, name)
            found += len(told) > 0
        self.assertGreater(found, 20)

    def test_in_vain_each_once(self):
        self.assertEqual(WHOLE((0, 0), 2), [(2,), (3,), (0,), (1,), (2,), (3,)])
        self.assertEqual(WHOLE.in_vain((0, 0), 2), [])
        narrow = Rule.whole(Gauge(AREA, Ratio(1, 4), Ratio(1, 4), "box"))
        self.assertEqual(narrow((0, 0), Ratio(1, 2)), [(2,), (3,), (0,), (1,), (2,), (3,)])
        self.assertEqual(narrow.in_vain(d=Ratio(1, 2), place=(0, 0)), [(1,), (3,)])
        self.assertEqual(narrow.in_vain((0, Ratio(3, 2)), Ratio(1, 2)), [])
        self.assertEqual(narrow.in_vain((3, Ratio(3, 2)), Ratio(1, 2)), [(2,), (3,)])
        self.assertEqual(narrow.in_vain((0, 0), 5), [])

    def test_misses_of_a_rule_with_stops(self):
        rule = WHOLE.with_edges(("stop", "stop"))
        self.assertIs(rule.misses((0, 0), (7, 0), 2), False)
        self.assertIs(rule.misses((0, 0), (7, 0), 1), True)
        self.assertIs(WHOLE.misses((0, 0), (7, 0), 1), False)
        self.assertIs(rule.misses(d=1, other=(1, 1), place=(0, 0)), False)
        self.assertIs(rule.misses((0, 0), (6, 0), 1), False)
        places = {"a": (7, 0), "b": (1, 1), "abcdefgh": (Ratio(15, 2), 1), "z": (4, 3)}
        self.assertEqual(rule.missed(places, (0, 0), 1), ["a", "abcdefgh"])
        self.assertEqual(rule.missed(places=places, place=(0, 0), d=4), [])
        self.assertEqual(rule.told(places, (0, 0), 1), ["b"])
        self.assertEqual(rule.told(d=1, place=(0, 0), places=dict(reversed(places.items()))), ["b"])
        self.assertEqual(WHOLE.told(places, (0, 0), 2), ["a", "a", "abcdefgh", "abcdefgh", "b", "z", "z"])
        self.assertEqual(WHOLE.told(places, (0, 0), 9), ["a", "abcdefgh", "b", "z"])
        self.assertEqual(places, {"a": (7, 0), "b": (1, 1), "abcdefgh": (Ratio(15, 2), 1), "z": (4, 3)})

    def test_no_places(self):
        self.assertEqual((WHOLE.told({}, (0, 0), 1), WHOLE.missed({}, (0, 0), 1)), ([], []))

    def test_distances_beyond_a_thousand_signs(self):
        d = WHOLE.gauge.greatest(1000)
        beyond = d * Ratio(1, 2)
        near, far = (0, 0), (4, 3)
        self.assertEqual((WHOLE.misses(near, far, d), WHOLE.misses(near, near, d)), (False, False))
        self.assertEqual((WHOLE.told({"a": near}, near, d), WHOLE.missed({"a": far}, near, d)), (["a"], []))
        self.assertEqual(WHOLE.in_vain(near, d), [(0,) * 999 + (2,), (0,) * 999 + (3,)])
        for place, other in itertools.product((near, far), repeat=2):
            for rule in (WHOLE, WHOLE - MOVES):
                self.fails(TooMany, ["signs", 1000], rule.misses, place, other, beyond)
                self.fails(TooMany, ["signs", 1000], rule, place, beyond)
                self.fails(TooMany, ["signs", 1000], rule.in_vain, place, beyond)
                for places in ({}, {"a": other}, {"a": near, "b": far}):
                    self.fails(TooMany, ["signs", 1000], rule.told, places, place, beyond)
                    self.fails(TooMany, ["signs", 1000], rule.missed, places, place, beyond)
        for action in (WHOLE.told, WHOLE.missed):
            self.fails(InvalidPlaces, [None], action, None, near, beyond)
            self.fails(InvalidPlace, [None], action, {}, None, beyond)
        self.fails(InvalidPlace, [None], WHOLE.misses, near, None, beyond)
        self.fails(InvalidPlace, [None], WHOLE.in_vain, None, beyond)

    def test_wrong_places(self):
        place, other = (0, 4), (8, 0)
        right = {"place": (0, 0), "other": (1, 1), "d": 1}
        for name in ("place", "other"):
            self.fails_for_each(InvalidPlace, wrong_places(AREA), WHOLE.misses, right, name)
        self.fails_for_each(InvalidDistance, wrong_distances(), WHOLE.misses, right, "d")
        self.fails_in_sequence(WHOLE.misses, right, {
            "place": (place, InvalidPlace, [place]), "other": (other, InvalidPlace, [other]), "d": (0, InvalidDistance, [0]),
        })
        del right["other"]
        wrong = {"place": (place, InvalidPlace, [place]), "d": (Ratio(0), InvalidDistance, [Ratio(0)])}
        wrong["d"] = (-1, InvalidDistance, [-1])
        self.fails_in_sequence(WHOLE.in_vain, right, wrong)
        self.fails_for_each(InvalidPlace, wrong_places(AREA), WHOLE.in_vain, right, "place")
        self.fails_for_each(InvalidDistance, wrong_distances(), WHOLE.in_vain, right, "d")

    def test_wrong_dicts(self):
        words = ["", "abcdefghi", "A", "aB", "a b", "a1", "1", "a_", "\u00e9", "\u00df", "\u0430", "a\n", " a", None, 0, 1, True, ("a",), b"a"]
        wrong = [value for value in odd_values() + [0, [("a", (0, 0))], "a"] if value != {}]
        wrong = wrong + [{word: (0, 0)} for word in words] + [{"a": (0, 0), word: (0, 0)} if word != "a" else {} for word in words]
        wrong = wrong + [{"a": value} for value in wrong_places(AREA)] + [{"b": (0, 0), "a": (8, 0)}]
        right = {"places": {"a": (0, 0)}, "place": (0, 0), "d": 1}
        value = {"a": None}
        for action in (WHOLE.told, WHOLE.missed):
            self.fails_for_each(InvalidPlaces, wrong, action, right, "places")
            self.fails_for_each(InvalidPlace, wrong_places(AREA), action, right, "place")
            self.fails_for_each(InvalidDistance, wrong_distances(), action, right, "d")
            self.fails_in_sequence(action, right, {
                "places": (value, InvalidPlaces, [value]), "place": (True, InvalidPlace, [True]), "d": (0, InvalidDistance, [0]),
            })

    def test_whole_rules_miss_nothing_here(self):
        for gauge in search_models.sample_gauges()[::3]:
            rule = Rule.whole(gauge)
            some = models.some(models.corners(gauge.area, 2), 8)
            for place, other in itertools.product(some, repeat=2):
                between = models.distance(gauge.area, gauge.kind, place, other)
                for d in (between, between + Fraction(1, 10 ** 9)):
                    if d > Fraction(1, 10 ** 12):
                        self.assertIs(rule.misses(place, other, ratio(d)), False)

    def test_places_of_passed_kinds(self):
        self.assertIs(WHOLE.misses((0, Ratio(1, 2)), ratios((7, 1)), Ratio(3, 2)), False)


if __name__ == "__main__":
    unittest.main()
