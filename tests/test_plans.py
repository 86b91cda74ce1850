"""movecells/plans.py: cuts, rounds and plans [2], [12], [13]."""

import itertools
import unittest

from movecells.errors import InvalidNumber, InvalidPair, InvalidPhase, InvalidRounds, InvalidSign
from movecells.errors import NotBalanced, TooMany
from movecells.plans import Plan
from tests.support import Alike, Checks, no_counts, no_counts_below, no_integers, odd_values

E2, E3, E4 = ("east", 2), ("east", 3), ("east", 4)
N2, N3, N4 = ("north", 2), ("north", 3), ("north", 4)

# Plans of one to three rounds; some of the rounds cut one axis alone.
ROUNDS = [
    [[E2, N2]],
    [[N2, E2]],
    [[E3, N3]],
    [[E4, N4]],
    [[E2, N2, E2, N2]],
    [[E2, N4, E2]],
    [[E2], [N2]],
    [[N4], [E2, E2]],
    [[E2, N3, E2, N2], [E3, N2]],
    [[E2, N2, E2, N2, E2], [N2, E2, N2, E2, N2]],
    [[E2, E2, E2, E2, E2], [N4, N4, N2]],
    [[N3], [E3, E2], [N2]],
    [[E4, N2], [N3, E2], [E3, N4]],
]


def places_by_the_document(cuts):
    """The dict from the signs of a round to their places, sign by sign from the numbers of the parts."""
    places = {}
    for numbers in itertools.product(*[range(parts) for _, parts in cuts]):
        worths = {"sign": 0, "east": 0, "north": 0}
        for (axis, parts), number in zip(cuts, numbers):
            worths["sign"] = worths["sign"] * parts + number
            worths[axis] = worths[axis] * parts + number
        places[worths["sign"]] = (worths["east"], worths["north"])
    return places


def product_of(cuts, axis):
    worth = 1
    for cut_axis, parts in cuts:
        worth *= parts if cut_axis == axis else 1
    return worth


class PlanCase(Checks, unittest.TestCase):
    def plans(self):
        return [(Plan(*rounds), rounds) for rounds in ROUNDS]


class TestConstructor(PlanCase):
    def test_lists_and_tuples(self):
        for rounds in ROUNDS:
            for made in (list, tuple):
                plan = Plan(*[made(cuts) for cuts in rounds])
                self.assertEqual(plan.rounds(), rounds)
                self.assertEqual(plan, Plan(*rounds))

    def test_what_is_returned_is_plain(self):
        class Word(str):
            pass

        class Whole(int):
            pass

        class Row(list):
            pass

        class Cut(tuple):
            pass

        plan = Plan(Row([Cut((Word("east"), Whole(2))), Cut((Word("north"), Whole(2)))]))
        rounds = plan.rounds()
        self.assertEqual([rounds.__class__, rounds[0].__class__, rounds[0][0].__class__], [list, list, tuple])
        self.assertEqual([value.__class__ for value in rounds[0][0]], [str, int])
        self.is_integer(plan.phase(Whole(3)), 0)
        self.is_pair(plan.counts(Whole(0)), (1, 1))
        self.is_integer(plan.growth, 2)
        self.assertEqual(repr(plan), "Plan([('east', 2), ('north', 2)])")

    def test_without_rounds(self):
        self.fails(InvalidRounds, [None], Plan)

    def test_wrong_rounds(self):
        right = [E2, N2]
        values = no_integers() + [0, 1, -1, [E2] * 6, [], (), "ee", {E2: 1}, {E2}, E2, iter([E2]), [[E2, N2]]]
        for value in values:
            self.fails(InvalidRounds, [0], Plan, value)
            self.fails(InvalidRounds, [0], Plan, value, None)
            self.fails(InvalidRounds, [1], Plan, right, value)
            self.fails(InvalidRounds, [1], Plan, right, value, right, 5)
            self.fails(InvalidRounds, [2], Plan, right, right, value)

    def test_wrong_cuts(self):
        cuts = [["east", 2], ("east",), ("east", 2, 2), (), "e2", ("e", 2), ("East", 2), ("west", 2), (2, "east")]
        cuts = cuts + [("east", 1), ("east", 5), ("east", 0), ("east", -2), (("east",), 2), (0, 2), (True, 2)]
        cuts = cuts + [("east", value) for value in no_integers()]
        cuts = cuts + [(value, 2) for value in odd_values() if value.__class__ != str] + odd_values()
        for cut in cuts:
            if cut in [E2, N2] and not isinstance(cut, Alike):
                continue
            self.fails(InvalidRounds, [0], Plan, [cut])
            self.fails(InvalidRounds, [0], Plan, (N2, cut))
            self.fails(InvalidRounds, [1], Plan, [E2, N2], [E2, N2, cut])
            self.fails(InvalidRounds, [0], Plan, [cut], [cut])
            self.fails(InvalidRounds, [0], Plan, [cut, E2, E2, E2, E2, E2])

    def test_how_many_cuts(self):
        self.fails(InvalidRounds, [0], Plan, [])
        self.fails(InvalidRounds, [0], Plan, [E2, N2, E2, N2, E2, N2])
        self.fails(InvalidRounds, [1], Plan, [E2, N2], ())
        self.assertEqual(Plan([E2, N2, E2, N2, E2], [N2]).signs(0), 32)

    def test_too_many_rounds(self):
        squares = [E2, N2]
        self.assertEqual(len(Plan(squares, squares, squares)), 3)
        self.fails(TooMany, ["rounds", 3], Plan, squares, squares, squares, squares)
        self.fails(TooMany, ["rounds", 3], Plan, *([squares] * 9))

    def test_too_many_signs(self):
        self.assertEqual(Plan([E4, E4, E2], [N4, N4, N2]).signs(1), 32)
        self.fails(TooMany, ["signs", 32], Plan, [E3, N3, E2, N2])
        self.fails(TooMany, ["signs", 32], Plan, [E4, E3, E3], [N4, N3, N3])
        self.fails(TooMany, ["signs", 32], Plan, [E2, N2], [E4, N4, E4, N4, E4])
        self.fails(TooMany, ["signs", 32], Plan, [E3, E3, E4])

    def test_not_balanced(self):
        self.fails(NotBalanced, [2, 1], Plan, [E2])
        self.fails(NotBalanced, [1, 2], Plan, [N2])
        self.fails(NotBalanced, [8, 4], Plan, [E2, N2, E2, N2, E2])
        self.fails(NotBalanced, [12, 4], Plan, [E2, N2], [E3], [E2, N2])
        self.fails(NotBalanced, [2, 24], Plan, [N2, E2], [N3], [N4])

    def test_several_errors_at_once(self):
        bad, many, odd = [("east", 9)], [E4, E4, E4], [E2]
        self.fails(InvalidRounds, [4], Plan, many, odd, odd, odd, bad)
        self.fails(InvalidRounds, [1], Plan, many, bad, [], bad)
        self.fails(TooMany, ["rounds", 3], Plan, many, odd, odd, odd)
        self.fails(TooMany, ["signs", 32], Plan, odd, many)
        self.fails(TooMany, ["signs", 32], Plan, odd, odd, many)
        self.fails(NotBalanced, [8, 1], Plan, odd, odd, odd)

    def test_passed_lists_stay_and_are_copied(self):
        east, north = [E2, N3], [N2, E3]
        plan = Plan(east, north)
        self.assertEqual((east, north), ([E2, N3], [N2, E3]))
        east.append(N4)
        north[0] = E4
        self.assertEqual(plan.rounds(), [[E2, N3], [N2, E3]])
        self.assertEqual((plan.signs(0), plan.signs(1), plan.growth), (6, 6, 6))


class TestTold(PlanCase):
    def test_the_examples_of_the_interface(self):
        plan = Plan.squares(2)
        self.assertEqual([plan.signs(0), plan.place_of(0, 2), Plan.codes().counts(1)], [4, (1, 0), (8, 4)])

    def test_the_example_of_signs(self):
        plan = Plan([E2, N3, E2], [N4, E3])
        for a, b, c in itertools.product(range(2), range(3), range(2)):
            self.is_pair(plan.place_of(0, (a * 3 + b) * 2 + c), (a * 2 + c, b))

    def test_rounds_are_new_each_time(self):
        plan = Plan([E2, N2], [N3, E3])
        told = plan.rounds()
        told[0].append(E4)
        told[1][0] = E2
        told.append([E2])
        self.assertEqual(plan.rounds(), [[E2, N2], [N3, E3]])
        self.assertEqual(len({id(cuts) for cuts in plan.rounds() + [plan.rounds()]}), 3)
        self.assertEqual((plan.signs(0), plan.parts(1), plan.growth, len(plan)), (4, (3, 3), 6, 2))

    def test_rounds_len_and_growth(self):
        for plan, rounds in self.plans():
            self.assertEqual(plan.rounds(), rounds)
            self.is_integer(len(plan), len(rounds))
            growth = 1
            for cuts in rounds:
                growth *= product_of(cuts, "east")
            self.is_integer(plan.growth, growth)
            self.assertGreaterEqual(plan.growth, 2)

    def test_phase(self):
        for plan, rounds in self.plans():
            for f in (0, 1, 2, 3, 4, 5, 47, 999, 1000):
                self.is_integer(plan.phase(f), f % len(rounds))

    def test_signs_and_parts(self):
        for plan, rounds in self.plans():
            for phase, cuts in enumerate(rounds):
                columns, rows = product_of(cuts, "east"), product_of(cuts, "north")
                self.is_integer(plan.signs(phase), columns * rows)
                self.is_pair(plan.parts(phase), (columns, rows))

    def test_signs_and_their_places_there_and_back(self):
        for plan, rounds in self.plans():
            for phase, cuts in enumerate(rounds):
                places = places_by_the_document(cuts)
                self.assertEqual(len(places), plan.signs(phase))
                for sign, place in places.items():
                    self.is_pair(plan.place_of(phase, sign), place)
                    self.is_integer(plan.sign_at(phase, place), sign)
                columns, rows = plan.parts(phase)
                for place in itertools.product(range(columns), range(rows)):
                    self.assertEqual(plan.place_of(phase, plan.sign_at(phase, place)), place)

    def test_an_axis_that_is_not_cut(self):
        plan = Plan([E4], [N2, N2])
        self.assertEqual((plan.parts(0), plan.parts(1)), ((4, 1), (1, 4)))
        self.assertEqual([plan.place_of(0, sign) for sign in range(4)], [(0, 0), (1, 0), (2, 0), (3, 0)])
        self.assertEqual([plan.place_of(1, sign) for sign in range(4)], [(0, 0), (0, 1), (0, 2), (0, 3)])
        self.assertEqual([plan.counts(f) for f in range(5)], [(1, 1), (4, 1), (4, 4), (16, 4), (16, 16)])

    def test_counts(self):
        for plan, rounds in self.plans():
            columns = rows = 1
            for f in range(1001):
                if f < 30 or f > 995:
                    self.is_pair(plan.counts(f), (columns, rows))
                columns *= product_of(rounds[f % len(rounds)], "east")
                rows *= product_of(rounds[f % len(rounds)], "north")
        self.assertEqual(Plan.squares(4).counts(1000), (4 ** 1000, 4 ** 1000))

    def test_turned(self):
        other = {"east": "north", "north": "east"}
        for plan, rounds in self.plans():
            turned = plan.turned()
            self.assertIs(turned.__class__, Plan)
            self.assertEqual(turned.rounds(), [[(other[axis], parts) for axis, parts in cuts] for cuts in rounds])
            self.assertEqual(turned.turned(), plan)
            self.assertEqual(plan.rounds(), rounds)
            for phase in range(len(plan)):
                self.assertEqual(turned.parts(phase), plan.parts(phase)[::-1])
                for sign in range(plan.signs(phase)):
                    self.assertEqual(turned.place_of(phase, sign), plan.place_of(phase, sign)[::-1])
            self.assertEqual(turned.counts(7), plan.counts(7)[::-1])

    def test_equal(self):
        for plan, rounds in self.plans():
            for other, others in self.plans():
                self.assertIs(plan == other, rounds == others)
                self.assertIs(plan != other, rounds != others)
            for value in odd_values()[:-1] + [0, 1, rounds, repr(plan)]:
                self.assertIs(plan == value, False)
                self.assertIs(plan != value, True)
        self.assertNotEqual(Plan([E2, N2]), Plan([E2, N2], [E2, N2]))
        self.assertNotEqual(Plan([E2, N2, E2, N2]), Plan([E2, E2, N2, N2]))
        self.assertNotEqual(Plan([E4, N4]), Plan([E2, E2, N4]))

    def test_repr(self):
        self.assertEqual(repr(Plan.squares(2)), "Plan([('east', 2), ('north', 2)])")
        self.assertEqual(repr(Plan((E2,), (N2,))), "Plan([('east', 2)], [('north', 2)])")
        for plan, rounds in self.plans():
            self.assertEqual(repr(plan), "Plan(" + ", ".join([repr(cuts) for cuts in rounds]) + ")")
            self.assertEqual(eval(repr(plan), {"Plan": Plan}), plan)

    def test_growth_cannot_be_assigned(self):
        plan = Plan.squares(2)
        with self.assertRaises(AttributeError):
            plan.growth = 3
        self.assertEqual(plan.growth, 2)


class TestClass(PlanCase):
    def test_class_values(self):
        for holder in (Plan, Plan.squares(2)):
            self.is_integer(holder.MOST_ROUNDS, 3)
            self.is_integer(holder.MOST_CUTS, 5)
            self.is_integer(holder.MOST_SIGNS, 32)

    def test_squares(self):
        for parts in (2, 3, 4):
            self.assertIs(Plan.squares(parts).__class__, Plan)
            self.assertEqual(Plan.squares(parts=parts).rounds(), [[("east", parts), ("north", parts)]])
            self.assertEqual(Plan.squares(parts).growth, parts)
        for value in no_counts() + [0, 1, 5, 6, 10 ** 60]:
            self.fails(InvalidNumber, [value], Plan.squares, value)

    def test_codes(self):
        rounds = [[E2, N2, E2, N2, E2], [N2, E2, N2, E2, N2]]
        self.assertEqual(Plan.codes().rounds(), rounds)
        self.assertEqual(Plan.codes(), Plan(*rounds))
        self.assertEqual((Plan.codes().growth, Plan.codes().signs(0), Plan.codes().signs(1)), (32, 32, 32))

    def test_everything_listed_stands_in_the_class(self):
        names = "rounds __len__ phase signs parts place_of sign_at counts growth turned squares codes __eq__ __repr__"
        for name in names.split():
            self.assertIn(name, vars(Plan))
        for name in ("squares", "codes"):
            self.assertIsInstance(vars(Plan)[name], classmethod)
        self.assertIsInstance(vars(Plan)["growth"], property)
        self.assertEqual(Plan.__module__, "movecells.plans")

    def test_parameters(self):
        plan = Plan.squares(2)
        self.has_parameters(plan.phase, "f")
        self.has_parameters(plan.signs, "phase")
        self.has_parameters(plan.parts, "phase")
        self.has_parameters(plan.place_of, "phase", "sign")
        self.has_parameters(plan.sign_at, "phase", "pair")
        self.has_parameters(plan.counts, "f")
        self.has_parameters(Plan.squares, "parts")
        for method in (plan.rounds, plan.turned, Plan.codes):
            self.has_parameters(method)

    def test_by_names(self):
        plan = Plan([E2, N3], [N2, E3])
        self.assertEqual(plan.phase(f=3), 1)
        self.assertEqual((plan.signs(phase=0), plan.parts(phase=1)), (6, (3, 2)))
        self.assertEqual(plan.place_of(sign=4, phase=0), (1, 1))
        self.assertEqual(plan.sign_at(pair=(1, 1), phase=0), 4)
        self.assertEqual(plan.counts(f=1), (2, 3))


class TestWrongValues(PlanCase):
    def test_finenesses(self):
        for plan, _ in self.plans():
            for action in (plan.phase, plan.counts):
                for f in no_counts():
                    self.fails(InvalidNumber, [f], action, f)
                for f in (1001, 1002, 10 ** 60):
                    self.fails(TooMany, ["signs", 1000], action, f)

    def test_phases(self):
        for plan, _ in self.plans():
            for phase in no_counts_below(len(plan)):
                self.fails(InvalidPhase, [phase], plan.signs, phase)
                self.fails(InvalidPhase, [phase], plan.parts, phase)
                for value in (0, -1, 99, None, True):
                    self.fails(InvalidPhase, [phase], plan.place_of, phase, value)
                    self.fails(InvalidPhase, [phase], plan.sign_at, phase, value)
                self.fails(InvalidPhase, [phase], plan.sign_at, phase, (0, 0))

    def test_signs(self):
        for plan, _ in self.plans():
            for phase in range(len(plan)):
                for sign in no_counts_below(plan.signs(phase)):
                    self.fails(InvalidSign, [sign], plan.place_of, phase, sign)

    def test_pairs(self):
        for plan, _ in self.plans():
            for phase in range(len(plan)):
                columns, rows = plan.parts(phase)
                pairs = [(value, 0) for value in no_counts_below(columns)]
                pairs = pairs + [(0, value) for value in no_counts_below(rows)]
                pairs = pairs + [(columns, rows), (-1, -1), [0, 0], (0,), (0, 0, 0), (), (False, False), ((0, 0), 0)]
                pairs = pairs + [value for value in no_integers() if value.__class__ != tuple] + [0, "00", {0: 0}]
                for pair in pairs:
                    self.fails(InvalidPair, [pair], plan.sign_at, phase, pair)

    def test_a_plan_stays_as_it_is_behind_errors(self):
        plan = Plan([E2, N3], [N2, E3])
        for action, values in (
            (plan.phase, [-1]), (plan.counts, [1001]), (plan.signs, [2]), (plan.parts, [True]),
            (plan.place_of, [0, 6]), (plan.sign_at, [1, (3, 0)]),
        ):
            self.assertRaises((ValueError, ArithmeticError), action, *values)
        self.assertEqual(plan, Plan([E2, N3], [N2, E3]))


if __name__ == "__main__":
    unittest.main()
