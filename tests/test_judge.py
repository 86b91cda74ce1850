"""movecells/judge.py: claims of rules and tables, and the papers that show them [2], [4], [92]."""

import unittest

from movecells import judge as file
from movecells.alike import fault, once_from, parting, rules_alike, twice
from movecells.errors import InvalidClaim, TooMany
from movecells.gauges import Gauge
from movecells.judge import is_claim, is_paper, is_true, paper_for
from movecells.maps import Map
from movecells.missing import closed_lists, fewest_signs, misses_nothing, missing
from movecells.plans import Plan
from movecells.ratios import Ratio
from movecells.rules import Rule
from movecells.tables import Table
from tests import graph_models, search_models
from tests.graph_models import STAY, some_rules, spoiled, written_otherwise
from tests.models import MOVES, ratio
from tests.support import Alike, Checks, Row, Word, no_integers, not_of, odd_values
from tests.test_alike import JUST as JUST_ALIKE
from tests.test_alike import MORE as MORE_ALIKE
from tests.test_alike import OWN, same
from tests.test_alike import crowded as crowded_alike
from tests.test_gaps import wrong_distances
from tests.test_graphs import GAUGE, JUST, MORE, SQUARES, WHOLE, crowded
from tests.test_names import wrong_names
from tests.test_places import wrong_places
from tests.test_tables import wrong_directions

AREA = GAUGE.area
TABLE = Table.right(SQUARES)
FAULTY = TABLE.with_entry(0, 0, 2, (0, None))
MISSING = WHOLE.with_edges(("stop", "stop"))
FEWER = WHOLE - [(1, 0)]
ALWAYS = Rule(GAUGE, same(SQUARES), [STAY, (1, 0)])
# Claims that are true, and such as are not.
TRUE = [
    ("misses nothing", WHOLE), ("misses", MISSING), ("right", TABLE), ("right", written_otherwise(SQUARES)), ("faulty", FAULTY),
    ("alike", WHOLE, WHOLE.with_table(written_otherwise(SQUARES))), ("unlike", WHOLE, FEWER), ("twice", WHOLE, 1),
    ("twice", ALWAYS, 500), ("once", WHOLE, 2), ("once", WHOLE, 500),
]
NOT_TRUE = [
    ("misses nothing", MISSING), ("misses", WHOLE), ("right", FAULTY), ("faulty", TABLE), ("alike", WHOLE, FEWER),
    ("unlike", WHOLE, WHOLE), ("twice", WHOLE, 2), ("once", WHOLE, 1), ("once", ALWAYS, 500),
]
WITHOUT = ("right", "alike", "once")


def wrong_claims():
    """Values that are no claims."""
    found = odd_values() + [0, "right", Alike(), list(TRUE[0]), (TABLE,), ("right",), ()]
    others = {
        "misses nothing": not_of(Rule) + [TABLE, GAUGE], "misses": not_of(Rule) + [TABLE], "right": not_of(Table) + [WHOLE],
        "faulty": not_of(Table) + [SQUARES],
    }
    for word, values in others.items():
        found = found + [(word, value) for value in values]
        right = WHOLE if word.startswith("misses") else TABLE
        found = found + [(word, right, right), (word, right, None), (word.upper(), right), (word + " ", right), [word, right]]
    for word in ("alike", "unlike"):
        found = found + [(word, value, WHOLE) for value in not_of(Rule) + [TABLE]]
        found = found + [(word, WHOLE, value) for value in not_of(Rule) + [TABLE]] + [(word, WHOLE), (word, WHOLE, WHOLE, WHOLE)]
        found = found + [(word, WHOLE, Rule.whole(Gauge(area, 1, 1, "box"))) for area in (Map(SQUARES, 8, 4), AREA * 2)]
    for word in ("twice", "once"):
        found = found + [(word, value, 1) for value in not_of(Rule) + [TABLE]] + [(word, WHOLE), (word, WHOLE, 1, 1), (word, 1, WHOLE)]
        found = found + [(word, WHOLE, value) for value in no_integers() + [0, -1, 501, 1000, 10 ** 50, Alike()]]
    return found + [(value, WHOLE) for value in odd_values()] + [(Alike(), WHOLE), ("", WHOLE), ("miss", WHOLE)] + [
        (word, WHOLE, other) for word in ("thrice", "Twice", "", "misses", "right", "east") for other in (1, WHOLE)
    ]


class TestIsClaim(Checks, unittest.TestCase):
    def test_right_ones(self):
        for claim in TRUE + NOT_TRUE:
            self.assertIs(is_claim(claim), True)
            self.assertIs(is_claim(Row((Word(claim[0]), *claim[1:]))), True)
        again = Rule.whole(Gauge(Map(Plan.squares(2), 8, 4, closed=["east"]), Ratio(1, 2), 1, "sum"))
        self.assertIs(is_claim(value=("alike", WHOLE, again)), True)
        for word in ("twice", "once"):
            self.assertEqual([is_claim((word, WHOLE, f)) for f in (0, 1, 2, 499, 500, 501)], [False, True, True, True, True, False])

    def test_wrong_ones(self):
        for value in wrong_claims():
            self.assertIs(is_claim(value), False, value)
            for action in (is_true, paper_for):
                self.fails(InvalidClaim, [value], action, value)
            self.fails(InvalidClaim, [value], is_paper, value, None)

    def test_parameters(self):
        for action, names in ((is_claim, ["value"]), (is_true, ["claim"]), (paper_for, ["claim"]), (is_paper, ["claim", "value"])):
            self.has_parameters(action, *names)
            self.assertEqual((action.__module__, getattr(file, action.__name__)), ("movecells.judge", action))
        self.assertIs(is_true(claim=TRUE[0]), True)
        self.assertIs(is_paper(value=paper_for(claim=TRUE[0]), claim=TRUE[0]), True)


class TestBothWays(Checks, unittest.TestCase):
    def check(self, claim):
        """A claim has a paper exactly if it is true; whether it is."""
        told = is_true(claim)
        paper = paper_for(claim)
        self.assertIn(told, (True, False))
        if claim[0] in WITHOUT:
            self.assertIs(paper, None)
            self.assertIs(is_paper(claim, None), told)
        else:
            self.assertIs(paper is not None, told)
            self.assertIs(is_paper(claim, paper), told)
            self.assertIs(is_paper(claim, None), False)
        return told

    def test_claims_that_are_true_and_not(self):
        for claim in TRUE:
            self.assertIs(self.check(claim), True, claim)
        for claim in NOT_TRUE:
            self.assertIs(self.check(claim), False, claim)

    def test_all_sorts_of_rules(self):
        for at, rule in enumerate(some_rules(50)):
            plan = rule.table.plan
            self.assertIs(self.check(("misses nothing", rule)), misses_nothing(rule))
            self.assertIs(self.check(("misses", rule)), not misses_nothing(rule))
            other = rule.with_table(spoiled(plan, at)) if at % 2 else rule - [MOVES[at % 9]]
            self.assertIs(self.check(("alike", rule, other)), rules_alike(rule, other))
            self.assertIs(self.check(("unlike", rule, other)), not rules_alike(rule, other))
            self.assertIs(self.check(("right", rule.table)), fault(rule.table) is None)
            self.assertIs(self.check(("faulty", rule.table)), fault(rule.table) is not None)
            least = once_from(rule)
            for f in (1, 2, 3, 500):
                self.assertIs(self.check(("twice", rule, f)), least is None or f < least)
                self.assertIs(self.check(("once", rule, f)), least is not None and f >= least)

    def test_papers_are_those_of_the_functions(self):
        self.assertEqual(paper_for(("misses nothing", WHOLE)), closed_lists(WHOLE))
        self.assertEqual(search_models.fineness(GAUGE, paper_for(("misses", MISSING))[2]), fewest_signs(MISSING))
        self.assertEqual(len(paper_for(("faulty", FAULTY))[1]), len(fault(FAULTY)[1]))
        self.assertEqual(len(paper_for(("twice", WHOLE, 1))), 2)

    def test_no_other_value_is_a_paper(self):
        values = odd_values() + [0, Alike(), paper_for(TRUE[0]), missing(MISSING), fault(FAULTY), parting(WHOLE, FEWER), twice(WHOLE, 1)]
        for claim in TRUE + NOT_TRUE:
            for value in values:
                if value is None or self.is_own(claim, value):
                    continue
                self.assertIs(is_paper(claim, value), False, (claim, value))

    def is_own(self, claim, value):
        """Whether a paper of one claim is one of another claim as well."""
        if claim not in TRUE:
            return False
        if claim[0] == "misses nothing":
            return isinstance(value, dict) and len(value) == 8
        if claim[0] == "faulty":
            return isinstance(value, tuple) and value[:1] == ("east",)
        if claim[0] == "misses":
            return isinstance(value, tuple) and len(value) == 3 and isinstance(value[2], Ratio)
        return claim[0] in ("unlike", "twice") and isinstance(value, tuple) and len(value) == 2 and isinstance(value[1], Ratio)


class TestSpoiledPapers(Checks, unittest.TestCase):
    def are_none(self, claim, values):
        for value in values:
            self.assertIs(is_paper(claim, value), False, value)

    def test_faults(self):
        claim = ("faulty", FAULTY)
        direction, name = paper_for(claim)
        self.assertEqual((direction, name), ("east", (2,)))
        for value, told in (
            (("east", (2,)), True), (("east", (1, 2)), True), (("east", (2, 2, 2)), True), (("east", (2, 1)), False), (("west", (2,)), False),
            (("east", (3,)), False), (("east", ()), False), (("north", (2,)), False), (Row((Word("east"), Row((2,)))), True),
        ):
            self.assertIs(is_paper(claim, value), told)
            self.assertIs(is_paper(("faulty", TABLE), value), False)
        self.are_none(claim, [(direction, value) for value in wrong_names(SQUARES)] + [(direction, [2]), (direction, list(name))])
        self.are_none(claim, [(value, name) for value in wrong_directions()] + [[direction, name], (direction,), (direction, name, 0)])

    def test_misses(self):
        claim = ("misses", MISSING)
        place, other, d = paper_for(claim)
        self.are_none(claim, [(place, place, d), (place, other), (place, other, d, d), [place, other, d], (place, other, d * 2)])
        self.are_none(claim, [(value, other, d) for value in wrong_places(AREA)] + [(place, value, d) for value in wrong_places(AREA)])
        self.are_none(claim, [(place, other, value) for value in wrong_distances()])

    def test_papers_that_nothing_is_missed(self):
        claim = ("misses nothing", WHOLE)
        paper = paper_for(claim)
        for target in paper:
            less = {other: paper[other] for other in paper if other != target}
            self.are_none(claim, [less, {**paper, target: paper[target][1:]}, {**paper, target: paper[target] + [None]}, {**less, 0: []}])
        self.assertIs(is_paper(claim, {target: tuple(paper[target][::-1]) for target in paper}), True)
        self.assertIs(is_paper(("misses nothing", MISSING), paper), False)

    def test_partings(self):
        claim = ("unlike", WHOLE, FEWER)
        place, d = paper_for(claim)
        self.assertIs(is_paper(("unlike", FEWER, WHOLE), (place, d)), True)
        self.assertIs(is_paper(("unlike", WHOLE, WHOLE), (place, d)), False)
        self.are_none(claim, [(place, d * 1000), [place, d], (place,), (place, d, d), (d, place)])
        self.are_none(claim, [(value, d) for value in wrong_places(AREA)] + [(place, value) for value in wrong_distances()])

    def test_what_is_asked_twice(self):
        claim = ("twice", WHOLE, 1)
        place, d = paper_for(claim)
        self.assertEqual(WHOLE.gauge(d), 1)
        for value, told in (
            ((place, d), True), ((place, Ratio(3, 2)), True), (((7, 3), 2), True), ((place, 1), False), ((place, 3), False),
        ):
            self.assertIs(is_paper(claim, value), told)
        self.are_none(claim, [[place, d], (place,), (place, d, d), (d, place)])
        self.are_none(claim, [(value, d) for value in wrong_places(AREA)] + [(place, value) for value in wrong_distances()])
        # The own cell alone is asked for great distances: never twice.
        self.assertIs(is_paper(claim, (place, 100)), False)
        place, d = paper_for(("twice", ALWAYS, 7))
        self.assertEqual(ALWAYS.gauge(d), 7)
        for f, told in ((1, True), (6, True), (7, True), (8, False), (500, False)):
            self.assertIs(is_paper(("twice", ALWAYS, f), (place, d)), told)
        small = ratio(search_models.greatest(GAUGE, 1000))
        self.assertIs(is_paper(("twice", ALWAYS, 500), ((0, 0), small)), True)
        self.assertIs(is_paper(("twice", ALWAYS, 500), ((0, 0), small.over(2))), False)

    def test_distances_beyond_a_thousand_signs(self):
        small = ratio(search_models.greatest(GAUGE, 1000)).over(2)
        self.are_none(("misses", MISSING), [((0, 0), (8 - small.over(10), 0), small)])
        self.are_none(("unlike", WHOLE, FEWER), [((0, 0), small)])


class TestTooMany(Checks, unittest.TestCase):
    def test_what_is_missed(self):
        just, more = crowded(JUST), crowded(MORE)
        shown = missing(just)
        for word in ("misses nothing", "misses"):
            self.assertIs(is_true((word, just)), word == "misses")
            for action in (is_true, paper_for):
                self.fails(TooMany, ["states", 1000], action, (word, more))
        for value in (None, {}, 0):
            self.fails(TooMany, ["states", 1000], is_paper, ("misses nothing", more), value)
        # Whether a value is a miss needs no states.
        self.assertIs(is_paper(("misses", more), shown), more.misses(*shown))
        self.assertIs(is_paper(("misses", more), None), False)

    def test_rules_that_are_compared(self):
        just, more = crowded_alike(JUST_ALIKE), crowded_alike(MORE_ALIKE)
        for word in ("alike", "unlike"):
            self.assertIs(is_true((word, OWN, just)), word == "unlike")
            self.fails(TooMany, ["states", 1000], is_true, (word, OWN, more))
        self.fails(TooMany, ["states", 1000], paper_for, ("unlike", OWN, more))
        self.assertIs(paper_for(("alike", OWN, more)), None)
        self.fails(TooMany, ["states", 1000], is_paper, ("alike", OWN, more), None)
        for value in (0, parting(OWN, just), {}, False):
            self.assertIs(is_paper(("alike", OWN, more), value), False)
        shown = parting(OWN, just)
        self.assertIs(is_paper(("unlike", OWN, more), shown), set(OWN(*shown)) != set(more(*shown)))
        claim = ("alike", OWN, WHOLE)
        self.fails(InvalidClaim, [claim], is_true, claim)

    def test_what_is_passed_stays(self):
        claim = ("misses nothing", WHOLE)
        paper = paper_for(claim)
        before = repr(paper)
        is_paper(claim, paper)
        self.assertEqual(repr(paper), before)
        paper.clear()
        self.assertEqual(repr(paper_for(claim)), before)
        self.assertEqual(graph_models.targets(WHOLE), list(paper_for(claim)))


if __name__ == "__main__":
    unittest.main()
