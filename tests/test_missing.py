"""movecells/missing.py: whether a rule misses a place, and what shows it [2], [4], [63], [74] to [76]."""

import itertools
import unittest

from movecells import missing as file
from movecells.errors import InvalidRule, TooMany
from movecells.gauges import Gauge
from movecells.maps import Map
from movecells.missing import closed_lists, fewest_signs, is_closed_paper, is_miss, missing, missing_by, misses_nothing
from movecells.plans import Plan
from movecells.ratios import Ratio
from movecells.rules import Rule
from movecells.tables import Table
from tests import graph_models, models, search_models
from tests.graph_models import STAY, sample_rules, some_rules, written_otherwise
from tests.models import MOVES, fraction, ratio
from tests.support import Alike, Checks, Row, Whole, not_of, odd_values
from tests.test_gaps import wrong_distances
from tests.test_graphs import GAUGE, JUST, MORE, WHOLE, crowded, wrong_states
from tests.test_places import wrong_places

AREA = GAUGE.area
MISSING = WHOLE.with_edges(("stop", "stop"))
FUNCTIONS = (misses_nothing, closed_lists, missing, fewest_signs, missing_by)


def grid(area, f):
    """Numbers at the borders of the cells of a fineness and close below them, for both axes."""
    found = []
    for length, side, many in zip(models.lengths_of(area), models.sides(area, f), models.counts(area.plan, f)):
        borders = [side * at for at in range(many)]
        found.append(sorted(borders + [(border - side / 1000) % length for border in borders]))
    return list(itertools.product(*found))


def missed_by_places(rule, f):
    """Whether something is missed for the greatest distance of a fineness, by looking through places."""
    area = rule.gauge.area
    d = search_models.greatest(rule.gauge, f)
    places = grid(area, f + 1)
    names = {place: models.name_at(area, place, f) for place in places}
    for place in places:
        asked = search_models.asked(rule, place, d)
        for other in places:
            if names[other] not in asked and models.distance(area, rule.gauge.kind, place, other) <= d:
                return True
    return False


class MissingCase(Checks, unittest.TestCase):
    def is_shown(self, rule, told):
        """What was told is a miss, by the words of [63], and of the least length."""
        self.assertIs(told.__class__, tuple)
        place, other, d = told
        self.are_ratios(place, [fraction(number) for number in place])
        self.are_ratios(other, [fraction(number) for number in other])
        self.is_ratio(d, fraction(d))
        gauge = rule.gauge
        self.assertLessEqual(models.distance(gauge.area, gauge.kind, place, other), fraction(d))
        f = search_models.fineness(gauge, d)
        self.assertNotIn(models.name_at(gauge.area, other, f), search_models.asked(rule, place, d))
        self.assertIs(is_miss(rule, told), True)
        self.assertIs(rule.misses(*told), True)
        return f

    def is_right_paper(self, rule, paper):
        """What was told is a paper, by the words of [75]."""
        self.assertIs(paper.__class__, dict)
        self.assertEqual(list(paper), graph_models.targets(rule))
        for target in paper:
            self.assertIs(paper[target].__class__, list)
            there = set(paper[target])
            self.assertIn(graph_models.start(rule, target), there)
            for state in there:
                self.assertIs(graph_models.is_bad(rule, state), False)
                for sign in range(rule.table.plan.signs(state[0])):
                    self.assertIn(graph_models.following(rule, state, sign), there)


class TestAllSortsOfRules(MissingCase):
    def test_what_is_told_goes_together(self):
        """A rule has a paper or a miss, never both, as the bad ends say that are come to."""
        both = {True: 0, False: 0}
        for rule in sample_rules():
            found = {target: graph_models.all_states(rule, target) for target in graph_models.targets(rule)}
            bad = [target for target in found if any(graph_models.is_bad(rule, state) for state in found[target])]
            self.assertEqual(missing_by(rule), bad)
            self.assertIs(missing_by(rule).__class__, list)
            told = misses_nothing(rule)
            self.assertIs(told, not bad)
            both[told] += 1
            if told:
                self.is_right_paper(rule, closed_lists(rule))
                self.assertIs(is_closed_paper(rule, closed_lists(rule)), True)
                self.assertEqual((missing(rule), fewest_signs(rule)), (None, None))
            else:
                self.assertIs(closed_lists(rule), None)
                self.is_integer(fewest_signs(rule), self.is_shown(rule, missing(rule)))
                self.assertLess(fewest_signs(rule), max(len(found[target]) for target in bad))
        self.assertGreater(min(both.values()), 40)

    def test_by_looking_through_names(self):
        """Nothing is missed at finenesses below the told one, and by the told targets at it."""
        lengths = []
        for rule in some_rules(70):
            told = fewest_signs(rule)
            for f in range(1, 7):
                names = 1
                for at in range(f):
                    names *= rule.table.plan.signs(at % len(rule.table.plan))
                if names > 200:
                    break
                missed = graph_models.missed_at(rule, f)
                self.assertLessEqual(set(missed), set(missing_by(rule)))
                if told is None or f < told:
                    self.assertEqual(missed, [])
                if f == told:
                    self.assertNotEqual(missed, [])
                    lengths.append(f)
        self.assertGreater(len(set(lengths)), 2)

    def test_by_looking_through_places_and_distances(self):
        seen = set()
        for rule in some_rules(60):
            for f in (1, 2):
                counts = models.counts(rule.table.plan, f + 1)
                if f % len(rule.table.plan) not in graph_models.taken(rule.gauge) or counts[0] * counts[1] > 40:
                    continue
                told = missed_by_places(rule, f)
                self.assertIs(told, graph_models.missed_at(rule, f) != [])
                if told:
                    self.assertLessEqual(fewest_signs(rule), f)
                seen.add((told, f))
        self.assertEqual(len(seen), 4)


class TestRules(MissingCase):
    def test_whole_rules_miss_nothing(self):
        for rounds in models.ROUNDS:
            for closed, kind in itertools.product(models.CLOSED, ("box", "sum")):
                gauge = Gauge(models.map_of(rounds, closed=closed), 1, Ratio(2, 3), kind)
                self.assertIs(misses_nothing(Rule.whole(gauge)), True)
                self.assertIs(misses_nothing(Rule.whole(gauge).with_table(written_otherwise(gauge.area.plan))), True)

    def test_a_move_too_few(self):
        for move in MOVES:
            rule = WHOLE - [move]
            self.assertIs(misses_nothing(rule), move == STAY)
            if move != STAY:
                # Only the second column that is left is the same to the east and to the west.
                self.assertEqual(fewest_signs(rule), 2 if move in ((1, 0), (-1, 0)) else self.is_shown(rule, missing(rule)))
                self.assertEqual(missing_by(rule), [(0, move, tuple(other for other in MOVES if other != move))])

    def test_edges(self):
        for edges, few in ((("seam", "stop"), None), (("stop", "stop"), 2), (("seam", "seam"), None), (("stop", "seam"), 2)):
            self.assertEqual(fewest_signs(WHOLE.with_edges(edges)), few)

    def test_a_wrong_entry_that_shows_behind_several_signs(self):
        """A table that forgets a carry of its own second state, which only stands behind another carry."""
        plan = Plan.squares(2)
        right = [[list(entries) for entries in state] for state in search_models.right_states(plan)]
        lengths = []
        for many in range(1, 4):
            # The step east goes through so many states of its own; the last one forgets to carry on.
            states = [[list(entries) for entries in state] for state in right]
            for at in range(many):
                states.append([[(sign, None if behind is None else min(4 + at + 1, 3 + many)) for sign, behind in right[0][0]]])
            states[0] = [[(sign, None if behind is None else 4) for sign, behind in right[0][0]]]
            states[-1] = [[(sign, None) for sign, _ in right[0][0]]]
            rule = WHOLE.with_table(Table(plan, states))
            lengths.append(fewest_signs(rule))
            self.assertEqual(lengths[-1], self.is_shown(rule, missing(rule)))
            self.assertEqual({shift for _, shift, _ in missing_by(rule)}, {(1, -1), (1, 0), (1, 1)})
        self.assertEqual(lengths, sorted(set(lengths)))

    def test_reaches_that_need_less(self):
        """With small reaches a next sign in the midst needs no neighbour."""
        plan = Plan.squares(4)
        gauge = Gauge(Map(plan, 4, 4), Ratio(1, 4), Ratio(1, 4), "box")
        looks = {(0, sign): [STAY] for sign in (5, 6, 9, 10)}
        for few, told in ((gauge, True), (gauge.with_reaches(Ratio(26, 100), Ratio(26, 100)), False)):
            self.assertIs(misses_nothing(Rule(few, Table.right(plan), MOVES, edges=("stop", "stop"), looks=looks)), told)


    def test_next_signs_with_looks_of_their_own(self):
        """What is missed is missed only by places with the one next sign, though the cells have many."""
        for plan in (Plan.squares(4), Plan.codes(), Plan([("east", 2), ("east", 4)], [("north", 4), ("north", 2)])):
            gauge = Gauge(Map(plan, 8, 5, closed=["north"]), 1, Ratio(9, 10), "sum")
            for phase in gauge.taken():
                for sign in range(plan.signs(phase)):
                    rule = Rule.whole(gauge).with_look(phase, sign, [STAY])
                    place, other, d = missing(rule)
                    self.assertEqual(fewest_signs(rule), self.is_shown(rule, (place, other, d)))
                    name = models.name_at(gauge.area, place, gauge(d) + 1)
                    self.assertEqual((gauge(d) % len(plan), name[-1]), (phase, sign))


class TestIsMiss(MissingCase):
    def test_right_ones(self):
        place, other, d = missing(MISSING)
        self.assertIs(is_miss(value=(place, other, d), rule=MISSING), True)
        self.assertIs(is_miss(MISSING, Row((Row(place), other, d))), True)
        self.assertIs(is_miss(MISSING, ((0, 0), (Ratio(15, 2), 0), 1)), True)

    def test_wrong_ones(self):
        place, other, d = missing(MISSING)
        self.assertIs(is_miss(WHOLE, (place, other, d)), False)
        self.assertIs(is_miss(MISSING, (place, place, d)), False)
        self.assertIs(is_miss(MISSING, (place, other, d * 2)), False)
        self.assertIs(is_miss(MISSING, (place, other, d.over(1000))), False)
        found = odd_values() + [0, "abc", Alike(), [place, other, d], (place, other), (place, other, d, d), (d, place, other)]
        found = found + [(value, other, d) for value in wrong_places(AREA)]
        found = found + [(place, value, d) for value in wrong_places(AREA)]
        found = found + [(place, other, value) for value in wrong_distances()]
        found = found + [([0, 0], (Ratio(15, 2), 0), 1), ((0, 0), (Ratio(15, 2), 0), True)]
        for value in found:
            self.assertIs(is_miss(MISSING, value), False, value)

    def test_distances_beyond_a_thousand_signs(self):
        small = ratio(search_models.greatest(GAUGE, 1000))
        for d, told in ((small, True), (small.over(2), False), (small.over(10 ** 9), False)):
            length = small.over(10 ** 10)
            self.assertIs(is_miss(MISSING, ((0, 0), (8 - length, 0), d)), told)
        with self.assertRaises(TooMany):
            MISSING((0, 0), small.over(2))


class TestPapers(MissingCase):
    def test_papers_that_are_written_otherwise(self):
        for rule in [WHOLE] + [rule for rule in some_rules(40) if misses_nothing(rule)]:
            paper = closed_lists(rule)
            self.assertIs(is_closed_paper(rule, {target: tuple(paper[target]) for target in reversed(paper)}), True)
            self.assertIs(is_closed_paper(rule, {target: paper[target][::-1] + paper[target][:2] for target in paper}), True)
        self.assertIs(is_closed_paper(value=closed_lists(rule=WHOLE), rule=WHOLE), True)

    def test_more_states_that_are_closed(self):
        """A list may have states that are not come to, if all is there to which they lead."""
        paper = closed_lists(WHOLE)
        target, other = (0, (1, 0), tuple(MOVES)), (0, (1, 1), tuple(MOVES))
        more = paper[other]
        self.assertFalse(set(more) <= set(paper[target]))
        self.assertIs(is_closed_paper(WHOLE, {**paper, target: paper[target] + more}), True)
        self.assertIs(is_closed_paper(WHOLE, {**paper, target: paper[target] + more[:1]}), False)
        self.assertIs(is_closed_paper(WHOLE, {**paper, target: more}), False)

    def test_papers_that_are_spoiled_in_one_place(self):
        for rule in [WHOLE] + [rule for rule in some_rules(8) if misses_nothing(rule)]:
            paper = closed_lists(rule)
            for target in models.some(paper, 2):
                there = paper[target]
                spoiled_lists = [there[:at] + there[at + 1:] for at in range(len(there))]
                for value in models.some(wrong_states(rule, target), 12):
                    spoiled_lists.append(there + [value])
                bad = (len(rule.table.plan) - 1, 0, 0, ())
                spoiled_lists = spoiled_lists + [there + [bad], [], (), None, 0, set(there), {state: True for state in there}, Alike()]
                for value in spoiled_lists:
                    self.assertIs(is_closed_paper(rule, {**paper, target: value}), False)
                less = {other: paper[other] for other in paper if other != target}
                self.assertIs(is_closed_paper(rule, less), False)
                phase, shift, moves = target
                for other in (
                    (phase, STAY, moves), (phase, shift, moves[1:]), (phase, shift), (phase, shift, moves, 0),
                    (len(rule.table.plan), shift, moves), None, "target",
                ):
                    self.assertIs(is_closed_paper(rule, {**paper, other: there}), False)
                    self.assertIs(is_closed_paper(rule, {**less, other: there}), False)

    def test_true_and_false_are_no_numbers(self):
        paper = closed_lists(WHOLE)
        for target in paper:
            phase, (i, j), moves = target
            less = {other: paper[other] for other in paper if other != target}
            for other in ((False, (i, j), moves), (phase, (i if i else False, bool(j) if j == 1 else j), moves)):
                if repr(other) != repr(target):
                    self.assertIn(other, paper)
                    self.assertIs(is_closed_paper(WHOLE, {**less, other: paper[target]}), False)
            for at, (last, east, north, alive) in enumerate(paper[target]):
                other = paper[target][:at] + [(False, east, north, alive)] + paper[target][at + 1:]
                self.assertIs(is_closed_paper(WHOLE, {**paper, target: other}), False)
        plain = {Row(target): [Row(state) for state in paper[target]] for target in paper}
        self.assertIs(is_closed_paper(WHOLE, plain), True)
        plain = {(Whole(0), shift, moves): paper[(0, shift, moves)] for _, shift, moves in paper}
        self.assertIs(is_closed_paper(WHOLE, plain), True)

    def test_values_of_other_kinds(self):
        for rule in (WHOLE, MISSING):
            for value in odd_values() + [0, [], list(closed_lists(WHOLE).items()), Alike()]:
                self.assertIs(is_closed_paper(rule, value), False)
        # Targets are the same, but bad ends are come to.
        self.assertIs(is_closed_paper(MISSING, closed_lists(WHOLE)), False)
        found = {target: graph_models.all_states(MISSING, target) for target in graph_models.targets(MISSING)}
        self.assertIs(is_closed_paper(MISSING, found), False)

    def test_what_is_passed_and_told_stays(self):
        paper = closed_lists(WHOLE)
        again = closed_lists(WHOLE)
        self.assertEqual(paper, again)
        self.assertEqual(len({id(value) for value in [paper, again, *paper.values(), *again.values()]}), 2 + 2 * len(paper))
        is_closed_paper(WHOLE, again)
        self.assertEqual(list(paper.items()), list(again.items()))
        for states in again.values():
            states.clear()
        again.clear()
        self.assertEqual(closed_lists(WHOLE), paper)
        for rule in (WHOLE, MISSING):
            missing_by(rule).append(0)
            self.assertEqual(len(missing_by(rule)), 0 if rule is WHOLE else 6)


class TestErrors(MissingCase):
    def test_wrong_rules(self):
        for action in FUNCTIONS:
            self.has_parameters(action, "rule")
            self.assertEqual((action.__module__, getattr(file, action.__name__)), ("movecells.missing", action))
            self.fails_for_each(InvalidRule, not_of(Rule) + [GAUGE], action, {}, "rule")
        for action in (is_closed_paper, is_miss):
            self.has_parameters(action, "rule", "value")
            self.fails_for_each(InvalidRule, not_of(Rule), action, {"rule": None, "value": None}, "rule")

    def test_too_many_states(self):
        self.assertIs(misses_nothing(crowded(JUST)), False)
        self.assertIs(closed_lists(crowded(JUST)), None)
        self.assertEqual(fewest_signs(crowded(JUST)), self.is_shown(crowded(JUST), missing(crowded(JUST))))
        self.assertIs(is_closed_paper(crowded(JUST), None), False)
        for action in FUNCTIONS:
            self.fails(TooMany, ["states", 1000], action, crowded(MORE))
        for value in (None, {}, closed_lists(WHOLE)):
            self.fails(TooMany, ["states", 1000], is_closed_paper, crowded(MORE), value)
        # Whether or not a miss is shown by another target.
        place, other, d = missing(crowded(JUST))
        self.assertIs(is_miss(crowded(MORE), (place, other, d)), crowded(MORE).misses(place, other, d))


if __name__ == "__main__":
    unittest.main()
