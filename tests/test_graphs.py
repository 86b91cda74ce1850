"""movecells/graphs.py: targets, and the states in which what is missed is looked for [2], [71] to [74], [76]."""

import random
import unittest

from movecells import graphs as file
from movecells.errors import InvalidRule, InvalidSign, InvalidState, InvalidTarget, TooMany
from movecells.gauges import Gauge
from movecells.graphs import following, is_bad, is_state, is_target, start, states, targets
from movecells.maps import Map
from movecells.plans import Plan
from movecells.rules import Rule
from movecells.tables import Table
from tests import graph_models, models
from tests.graph_models import STAY, sample_rules, some_rules, table_with_states
from tests.models import MOVES
from tests.support import Alike, Checks, Row, Whole, no_counts_below, no_integers, not_of, odd_values
from tests.test_steps import wrong_moves

SQUARES = Plan.squares(2)
GAUGE = Gauge(Map(SQUARES, 8, 4, closed=["east"]), 1, 1, "box")
WHOLE = Rule.whole(GAUGE)
ALL = tuple(MOVES)
TARGET = (0, (1, 0), ALL)
FEW = ((-1, 0), (0, -1), (0, 0), (0, 1), (1, 0))
# Tables of which the states of the target (0, (1, 0), FEW) are just 1,000, and one more.
JUST = [
    [(2, 6), (3, 5), (0, 0), (1, 0)], [(2, 7), (3, 6), (0, 1), (1, 1)], [(2, 5), (3, 7), (0, 2), (1, 2)],
    [(2, 4), (3, 4), (0, 3), (1, 3)], [(0, 4), (1, 7), (2, 7), (3, 5)], [(0, 7), (1, 5), (2, 4), (3, 6)],
    [(0, 7), (1, None), (2, 5), (2, 7)], [(0, 5), (1, 6), (2, 7), (3, 4)],
]
MORE = [
    [(2, 7), (3, 4), (0, 0), (1, 0)], [(2, 5), (3, 5), (0, 1), (1, 1)], [(2, 5), (3, 7), (0, 2), (1, 2)],
    [(2, 6), (3, 6), (0, 3), (1, 3)], [(0, 6), (1, 4), (2, 7), (3, 7)], [(3, 5), (1, 5), (2, 5), (3, 4)],
    [(0, 5), (1, None), (2, 4), (3, 6)], [(0, 7), (1, 6), (2, 7), (3, 5)],
]
WIDE = Gauge(Map(SQUARES, 1, 1, closed=["east", "north"]), 1, 1, "box")


def crowded(entries, gauge=WIDE, moves=FEW):
    """A rule with very many states for one of its targets."""
    return Rule(gauge, table_with_states(SQUARES, entries), moves)


def wrong_targets(rule):
    """Values that are no targets of the rule."""
    phase, shift, moves = targets(rule)[0]
    many = len(rule.table.plan)
    found = odd_values() + [0, "abc", Alike()]
    found = found + [(value, shift, moves) for value in no_counts_below(many) + [Alike()]]
    found = found + [(phase, value, moves) for value in wrong_moves() + [STAY, Alike()]]
    found = found + [(phase, shift, value) for value in odd_values() + [list(moves), (), Alike(), (STAY,) * 2]]
    found = found + [(phase, shift, (value,) + moves) for value in wrong_moves() + [moves[0]]]
    found = found + [(phase, shift, moves[::-1]), (phase, shift, moves[:-1]), (phase, shift, moves + ((1, 1),))]
    found = found + [(phase, shift), (phase, shift, moves, 0), [phase, shift, moves], (shift, phase, moves)]
    return [value for value in found if repr(value) != repr((phase, shift, moves))]


def wrong_states(rule, target):
    """Values that have not the form of a state of the target."""
    phase, east, north, alive = start(rule, target)
    parts = {"phase": phase, "east": east, "north": north, "alive": alive}
    found = odd_values() + [0, "abcd", Alike(), [phase, east, north, alive], (phase, east, north), (phase, east, north, alive, 0)]

    def changed(**other):
        return tuple({**parts, **other}.values())

    found = found + [changed(phase=value) for value in no_counts_below(len(rule.table.plan)) + [Alike()]]
    for value in no_integers() + [2, -2, Alike()]:
        found = found + [changed(east=value), changed(north=value)]
    found = found + [changed(alive=value) for value in [value for value in odd_values() if value != ()] + [list(alive), Alike()]]
    found = found + [changed(alive=alive[::-1]), changed(alive=alive + alive[-1:]), changed(alive=alive[:1] + alive)]
    absent = [move for move in MOVES if move not in target[2]]
    for value in wrong_moves() + absent:
        found.append(changed(alive=((value, ()),)))
    for move, stands in alive:
        for value in no_counts_below(len(rule.table)):
            if value is not None:
                found = found + [changed(alive=((move, stands[:at] + (value,) + stands[at + 1:]),)) for at in range(len(stands))]
        wrong = [stands + (0,), stands + (None,), stands[:-1], list(stands), None, 0, Alike()]
        found = found + [changed(alive=((move, value),)) for value in wrong if repr(value) != repr(stands)]
        found = found + [changed(alive=value) for value in (((move,),), ([move, stands],), ((move, stands, 0),), (move, stands))]
    return found


class GraphCase(Checks, unittest.TestCase):
    def is_plain(self, told):
        """What was told is made of plain tuples, INTEGERS and None only."""
        self.assertIn(told.__class__, (tuple, int, type(None)))
        if told.__class__ is tuple:
            for one in told:
                self.is_plain(one)


class TestTargets(GraphCase):
    def test_all_sorts_of_rules(self):
        for rule in sample_rules():
            told = targets(rule)
            self.assertIs(told.__class__, list)
            self.assertEqual(told, graph_models.targets(rule))
            for target in told:
                self.is_plain(target)
                self.assertIs(is_target(rule, target), True)
        self.assertEqual(targets(rule=WHOLE), [(0, shift, ALL) for shift in MOVES if shift != STAY])

    def test_phases_that_are_not_taken_have_none(self):
        plan = Plan([("east", 2)], [("north", 2)])
        gauge = Gauge(Map(plan, 8, 8), 1, 1, "box")
        self.assertEqual(gauge.taken(), [0])
        self.assertEqual({target[0] for target in targets(Rule.whole(gauge))}, {0})
        self.assertIs(is_target(Rule.whole(gauge), (0, (1, 0), ALL)), True)
        self.assertIs(is_target(Rule.whole(gauge), (1, (1, 0), ALL)), False)

    def test_moves_that_no_next_sign_has(self):
        looks = {(0, sign): [STAY, (0, 1)] for sign in range(4)}
        rule = Rule(GAUGE, Table.right(SQUARES), MOVES, looks=looks)
        self.assertEqual({target[2] for target in targets(rule)}, {(STAY, (0, 1))})
        self.assertIs(is_target(rule, TARGET), False)

    def test_moves_that_are_not_reached_with_a_list(self):
        # To the east goes on only who stands in the columns of the signs 2 and 3.
        rule = WHOLE.with_look(0, 2, [STAY]).with_look(0, 3, [STAY])
        self.assertEqual(is_target(rule, (0, (1, 0), (STAY,))), True)
        self.assertEqual(is_target(rule, (0, (-1, 0), (STAY,))), False)
        self.assertEqual(is_target(rule, (0, (1, 0), ALL)), False)
        self.assertEqual(is_target(rule, (0, (-1, 0), ALL)), True)

    def test_values_that_are_none(self):
        for rule in [WHOLE] + some_rules(8):
            for value in wrong_targets(rule):
                self.assertIs(is_target(rule, value), False, value)
        self.assertIs(is_target(value=TARGET, rule=WHOLE), True)
        self.assertIs(is_target(WHOLE, (False, (1, 0), ALL)), False)
        self.assertIs(is_target(WHOLE, (0, (True, 0), ALL)), False)
        self.assertIs(is_target(WHOLE, (0, (1, False), ALL)), False)
        self.assertIs(is_target(WHOLE, (0, (1, 0), ALL[:-1] + ((1, True),))), False)

    def test_new_each_time(self):
        told = targets(WHOLE)
        told.clear()
        self.assertEqual(len(targets(WHOLE)), 8)


class TestStart(GraphCase):
    def test_all_sorts_of_rules(self):
        for rule in sample_rules():
            for target in targets(rule):
                told = start(rule, target)
                self.is_plain(told)
                self.assertEqual(told, graph_models.start(rule, target))
                self.assertIs(is_state(rule, target, told), True)
                self.assertIs(is_bad(rule, target, told), False)
        self.assertEqual(start(target=(0, (0, -1), ALL), rule=WHOLE)[:3], (0, 0, -1))
        self.assertEqual(start(WHOLE, TARGET)[3][4], (STAY, ()))
        self.assertEqual(start(WHOLE, TARGET)[3][0], ((-1, -1), (1, 3)))


class TestIsState(GraphCase):
    def test_right_forms(self):
        table = table_with_states(SQUARES, JUST)
        rule = Rule(GAUGE, table, FEW)
        target = (0, (1, 0), FEW)
        for value in (
            (0, 0, 0, ()), (0, -1, 1, ((STAY, ()),)), (0, 1, 1, (((-1, 0), (7,)), ((0, 1), (None,)), ((1, 0), (0,)))),
        ):
            self.assertIs(is_state(rule, target, value), True)
        for stands in ((0, 7), (None, 3), (7, None), (None, None)):
            value = (0, 0, -1, (((-1, 1), stands),))
            self.assertIs(is_state(rule.with_table(table) | [(-1, 1)], (0, (1, 0), (FEW[0], (-1, 1)) + FEW[1:]), value), True)
            self.assertIs(is_state(rule, target, value), False)
        self.assertIs(is_state(value=(0, 0, 0, ()), target=TARGET, rule=WHOLE), True)

    def test_wrong_forms(self):
        for rule in [WHOLE] + some_rules(8):
            for target in models.some(targets(rule), 2):
                for value in wrong_states(rule, target):
                    self.assertIs(is_state(rule, target, value), False, value)

    def test_rounds(self):
        rule = Rule.whole(Gauge(Map(Plan([("east", 2)], [("north", 2)]), 8, 8), 1, 1, "box"))
        for phase, told in ((0, True), (1, True), (2, False), (True, False), (-1, False)):
            self.assertIs(is_state(rule, (0, (1, 0), ALL), (phase, 0, 0, ())), told)


class TestFollowing(GraphCase):
    def test_all_sorts_of_rules(self):
        for rule in some_rules(60):
            for target in models.some(targets(rule), 3):
                for state in models.some(graph_models.all_states(rule, target), 12):
                    for sign in range(rule.table.plan.signs(state[0])):
                        told = following(rule, target, state, sign)
                        self.assertEqual(told, graph_models.following(rule, state, sign))
                        self.is_plain(told)
                        self.assertIs(is_state(rule, target, told), True)

    def test_states_that_are_not_come_to(self):
        rnd = random.Random(3)
        for rule in some_rules(30):
            target = targets(rule)[-1]
            for _ in range(10):
                stands = [None] + list(range(len(rule.table)))
                alive = [(move, tuple(rnd.choice(stands) for many in move if many)) for move in target[2] if rnd.random() < 0.7]
                state = (rnd.randrange(len(rule.table.plan)), rnd.choice((-1, 0, 1)), rnd.choice((-1, 0, 1)), tuple(alive))
                self.assertIs(is_state(rule, target, state), True)
                self.assertIs(is_bad(rule, target, state), graph_models.is_bad(rule, state))
                sign = rnd.randrange(rule.table.plan.signs(state[0]))
                self.assertEqual(following(rule, target, state, sign), graph_models.following(rule, state, sign))

    def test_one_behind_another(self):
        first = start(WHOLE, TARGET)
        self.assertEqual(following(sign=0, state=first, target=TARGET, rule=WHOLE)[:3], (0, 0, 0))
        told = following(WHOLE, TARGET, first, 2)
        self.assertEqual(told, (0, 1, 0, (((-1, 0), (None,)), ((1, 0), (0,)))))
        self.assertEqual(following(WHOLE, TARGET, told, 0), (0, 0, 0, (((1, 0), (None,)),)))
        self.assertEqual(following(WHOLE, TARGET, told, 3), (0, 1, 0, (((1, 0), (0,)),)))

    def test_names_that_are_read_to_their_beginning(self):
        """An end is bad just if there is a neighbour that no move of the list makes."""
        rnd = random.Random(5)
        bad = 0
        for rule in sample_rules():
            plan = rule.table.plan
            for target in models.some(targets(rule), 4):
                for _ in range(4):
                    f = target[0] + len(plan) * rnd.randrange(0 if target[0] else 1, 4)
                    name = tuple(rnd.choice((0, plan.signs(at % len(plan)) - 1, rnd.randrange(plan.signs(at % len(plan)))))
                                 for at in range(f))
                    state = start(rule, target)
                    for sign in reversed(name):
                        state = following(rule, target, state, sign)
                    told = is_bad(rule, target, state)
                    self.assertIs(told, graph_models.is_missed(rule, name, target[2], target[1]))
                    bad = bad + told
        self.assertGreater(bad, 50)


class TestIsBad(GraphCase):
    def test_all_sorts_of_rules(self):
        for rule in some_rules(80):
            for target in models.some(targets(rule), 4):
                for state in graph_models.all_states(rule, target):
                    self.assertIs(is_bad(rule, target, state), graph_models.is_bad(rule, state))

    def test_ends_axes_and_words(self):
        self.assertIs(is_bad(rule=WHOLE, target=TARGET, state=(0, 0, 0, ())), True)
        for east, north, told in ((1, 0, True), (-1, 0, True), (0, 1, False), (1, -1, False)):
            self.assertIs(is_bad(WHOLE, TARGET, (0, east, north, ())), told)
        for edges in graph_models.EDGES:
            rule = WHOLE.with_edges(edges)
            for alive, told in (
                ((((1, 0), (0,)),), edges[0] == "stop"), ((((1, 0), (None,)),), False), (((STAY, ()),), False),
                ((((0, 1), (2,)),), edges[1] == "stop"), ((((1, 1), (None, 2)),), edges[1] == "stop"),
                ((((1, 1), (0, None)),), edges[0] == "stop"), ((((1, 1), (0, 2)),), "stop" in edges),
                ((((0, 1), (2,)), ((1, 0), (0,))), edges == ("stop", "stop")),
            ):
                self.assertIs(is_bad(rule, TARGET, (0, 0, 0, alive)), told)
        halves = Rule.whole(Gauge(Map(Plan([("east", 2)], [("north", 2)]), 8, 8), 1, 1, "box"))
        self.assertIs(is_bad(halves, (0, (1, 0), ALL), (1, 0, 0, ())), True)
        self.assertIs(is_bad(halves, (0, (1, 0), ALL), (0, 0, 0, ())), False)


class TestStates(GraphCase):
    def test_all_sorts_of_rules(self):
        for rule in some_rules(80):
            for target in models.some(targets(rule), 5):
                told = states(rule, target)
                self.assertIs(told.__class__, list)
                self.assertEqual(told, graph_models.all_states(rule, target))
                self.is_plain(tuple(told))
        self.assertEqual(len(states(target=TARGET, rule=WHOLE)), len(states(WHOLE, TARGET)))

    def test_just_as_many_as_are_let(self):
        target = (0, (1, 0), FEW)
        told = states(crowded(JUST), target)
        self.assertEqual(len(told), 1000)
        self.assertEqual(told, graph_models.all_states(crowded(JUST), target))
        self.assertEqual(len(graph_models.all_states(crowded(MORE), target, 1000)), 1001)
        self.fails(TooMany, ["states", 1000], states, crowded(MORE), target)
        # The other targets of this rule have few.
        self.assertLess(len(states(crowded(MORE), (0, (0, 1), FEW))), 100)

    def test_new_each_time(self):
        states(WHOLE, TARGET).clear()
        self.assertEqual(states(WHOLE, TARGET)[0], start(WHOLE, TARGET))


class TestErrors(GraphCase):
    def test_wrong_arguments(self):
        state = start(WHOLE, TARGET)
        right = {"rule": WHOLE, "target": TARGET, "state": state, "sign": 3}
        for action, names in (
            (targets, ["rule"]), (start, ["rule", "target"]), (following, ["rule", "target", "state", "sign"]),
            (is_bad, ["rule", "target", "state"]), (states, ["rule", "target"]),
        ):
            given = {name: right[name] for name in names}
            self.has_parameters(action, *names)
            self.assertEqual((action.__module__, getattr(file, action.__name__)), ("movecells.graphs", action))
            self.fails_for_each(InvalidRule, not_of(Rule) + [GAUGE], action, given, "rule")
            if "target" in names:
                self.fails_for_each(InvalidTarget, wrong_targets(WHOLE), action, given, "target")
            if "state" in names:
                self.fails_for_each(InvalidState, wrong_states(WHOLE, TARGET), action, given, "state")
            if "sign" in names:
                self.fails_for_each(InvalidSign, no_counts_below(4), action, given, "sign")
            wrong = {
                "rule": (None, InvalidRule, [None]), "target": (0, InvalidTarget, [0]), "state": ((), InvalidState, [()]),
                "sign": (True, InvalidSign, [True]),
            }
            # Behind a wrong rule there is no right target.
            self.fails_in_sequence(action, given, {name: wrong[name] for name in names})
        for action in (is_target, is_state):
            names = ["rule", "target", "value"] if action is is_state else ["rule", "value"]
            self.has_parameters(action, *names)
            given = {**right, "value": TARGET}
            given = {name: given[name] for name in names}
            self.fails_for_each(InvalidRule, not_of(Rule), action, given, "rule")
            self.fails(InvalidRule, [0], action, **{**given, "rule": 0, "value": None})
        self.fails_for_each(InvalidTarget, wrong_targets(WHOLE), is_state, {"rule": WHOLE, "target": 0, "value": state}, "target")
        self.fails(InvalidTarget, [0], is_state, WHOLE, 0, None)

    def test_signs_of_the_round_of_the_state(self):
        plan = Plan([("east", 2)], [("north", 4), ("east", 2)])
        rule = Rule.whole(Gauge(Map(plan, 8, 8), 1, 1, "box"))
        target = targets(rule)[0]
        for phase, signs in ((0, 2), (1, 8)):
            self.assertEqual(following(rule, target, (phase, 0, 0, ()), signs - 1), (1 - phase, 0, 0, ()))
            self.fails(InvalidSign, [signs], following, rule, target, (phase, 0, 0, ()), signs)

    def test_what_is_told_is_plain(self):
        state = Row((Whole(0), Whole(1), 0, Row((Row((Row((1, 0)), Row((Whole(0),)))),))))
        target = Row((Whole(0), Row((Whole(1), 0)), Row(ALL)))
        self.assertIs(is_target(WHOLE, target), True)
        self.assertIs(is_state(WHOLE, target, state), True)
        for told in (start(WHOLE, target), following(WHOLE, target, state, Whole(2)), states(WHOLE, target)[0]):
            self.is_plain(told)
        self.assertEqual(following(WHOLE, target, state, 2), (0, 1, 0, (((1, 0), (0,)),)))


if __name__ == "__main__":
    unittest.main()
