"""movecells/tables.py: states, entries, and the right table [2], [41], [42], [43]."""

import itertools
import unittest

from movecells.errors import InvalidBegins, InvalidDirection, InvalidEntry, InvalidPhase, InvalidPlan, InvalidSign
from movecells.errors import InvalidState, InvalidStates, InvalidTable
from movecells.plans import Plan
from movecells.tables import Table
from tests import models, search_models
from tests.search_models import odd_states, odd_table
from tests.support import Alike, Checks, Row, Whole, Word, no_counts_below, no_integers, not_of, odd_values

SQUARES = Plan.squares(2)
MIXED = Plan([("east", 2), ("north", 3)], [("east", 3), ("north", 2)])
PLANS = [Plan(*rounds) for rounds in models.ROUNDS]
# A state of SQUARES that changes nothing, and one that carries itself on.
QUIET = [[(0, None), (1, None), (2, None), (3, None)]]
LOUD = [[(0, 0), (1, 0), (2, 0), (3, 0)]]
ZEROS = (0, 0, 0, 0)


def wrong_directions():
    return [value for value in odd_values() if not isinstance(value, str)] + [0, 1, "", "0", "East", "up", "eastwest", ["east"], ("east",)]


def wrong_entries(signs, many):
    """Values that are no entries of a round with so many signs, in a table with so many states."""
    found = [(value, None) for value in no_counts_below(signs)] + [value for value in no_integers() if value != (0, 0)]
    found = found + [(0, value) for value in no_counts_below(many) if value is not None]
    found = [value for value in found if value != (0,) and value != (1, 2)]
    return found + [[0, None], [0, 0], (0,), (0, 0, 0), (0, None, None), (), 0, None, "00", {0: None}, Alike(), (Alike(), None)]


class TestConstructor(Checks, unittest.TestCase):
    def holds(self, table, states, begins):
        """The table has just these entries."""
        self.is_integer(len(table), len(states))
        for state, rounds in enumerate(states):
            for phase, entries in enumerate(rounds):
                for sign, entry in enumerate(entries):
                    told = table[state, phase, sign]
                    self.assertIs(told.__class__, tuple)
                    self.assertEqual(told, entry)
                    self.assertIs(told[0].__class__, int)
                    self.assertIn(told[1].__class__, (int, None.__class__))
        self.is_name(table.begins(), begins)

    def test_lists_and_tuples(self):
        for plan in PLANS:
            for many in (1, 5, 8):
                states = odd_states(plan, many)
                begins = tuple((k * 3 + 1) % many for k in range(4))
                self.holds(Table(plan, states, begins), states, begins)
                tuples = tuple(tuple(tuple(entries) for entries in rounds) for rounds in states)
                self.holds(Table(plan, tuples, begins), states, begins)
                self.assertEqual(Table(plan, tuples, begins), Table(plan, states, begins))
                self.assertEqual(Table(plan, states, begins).plan, plan)

    def test_without_begins(self):
        for many in (4, 5, 8):
            self.holds(Table(SQUARES, odd_states(SQUARES, many)), odd_states(SQUARES, many), (0, 1, 2, 3))
        for many in (1, 2, 3):
            with self.assertRaises(InvalidBegins) as caught:
                Table(SQUARES, odd_states(SQUARES, many))
            self.assertEqual(caught.exception.value, (0, 1, 2, 3))

    def test_by_names(self):
        table = Table(begins=ZEROS, states=[QUIET], plan=SQUARES)
        self.holds(table, [QUIET], ZEROS)
        self.has_parameters(Table, "plan", "states", "begins")

    def test_how_many_states(self):
        self.holds(Table(SQUARES, [QUIET], ZEROS), [QUIET], ZEROS)
        self.holds(Table(SQUARES, [QUIET] * 8, (7, 0, 7, 0)), [QUIET] * 8, (7, 0, 7, 0))
        for states in ([], (), [QUIET] * 9, [None] * 9, [QUIET] * 30):
            self.fails(InvalidStates, [None], Table, SQUARES, states, ZEROS)
        for value in odd_values() + [0, 1]:
            if not isinstance(value, (list, tuple)):
                self.fails(InvalidStates, [None], Table, SQUARES, value, ZEROS)

    def test_wrong_states(self):
        wrong = [None, True, 0, "", "ab", {}, [], (), [[]], [QUIET[0][:3]], [QUIET[0] + [(0, None)]], QUIET + QUIET]
        wrong = wrong + [[dict.fromkeys(QUIET[0])], [set(QUIET[0])], [None], ["abcd"], [iter(QUIET[0])], Alike()]
        for value in wrong:
            self.fails(InvalidStates, [0], Table, SQUARES, [value], ZEROS)
            self.fails(InvalidStates, [2], Table, SQUARES, [QUIET, LOUD, value, value], ZEROS)
            self.fails(InvalidStates, [1], Table, SQUARES, (QUIET, value, None, QUIET), ZEROS)

    def test_wrong_entries(self):
        for at, entry in itertools.product(range(4), wrong_entries(4, 2)):
            state = [QUIET[0][:at] + [entry] + QUIET[0][at + 1:]]
            self.fails(InvalidStates, [0], Table, SQUARES, [state, QUIET], ZEROS)
            self.fails(InvalidStates, [1], Table, SQUARES, [QUIET, state], ZEROS)

    def test_signs_of_another_round(self):
        plan = Plan([("east", 2), ("north", 2)], [("east", 3), ("north", 3)])
        four, nine = [(0, None)] * 4, [(0, None)] * 9
        Table(plan, [[four, nine]], ZEROS)
        for state in ([nine, four], [four], [four, nine, four], [four[1:] + [(4, None)], nine], [four, nine[1:] + [(9, None)]]):
            self.fails(InvalidStates, [0], Table, plan, [state], ZEROS)
        Table(plan, [[four[1:] + [(3, 0)], nine[1:] + [(8, 0)]]], ZEROS)

    def test_states_that_are_not_there(self):
        for many in (1, 3, 8):
            right = [[(0, many - 1)] * 4]
            Table(SQUARES, [right] * many, ZEROS)
            for state in no_counts_below(many):
                if state is not None:
                    wrong = [[(0, None), (0, None), (0, None), (0, state)]]
                    self.fails(InvalidStates, [many - 1], Table, SQUARES, [right] * (many - 1) + [wrong], ZEROS)

    def test_wrong_begins(self):
        states = [QUIET, LOUD]
        for at, value in itertools.product(range(4), no_counts_below(2)):
            begins = ZEROS[:at] + (value,) + ZEROS[at + 1:]
            self.fails(InvalidBegins, [begins], Table, SQUARES, states, begins)
        for begins in odd_values() + [[0, 0, 0, 0], (0, 0, 0), (0, 0, 0, 0, 0), (), 0, "0000", {0: 0, 1: 0, 2: 0, 3: 0}]:
            self.fails(InvalidBegins, [begins], Table, SQUARES, states, begins)

    def test_several_errors_at_once(self):
        right = {"plan": SQUARES, "states": [QUIET], "begins": ZEROS}
        self.fails_for_each(InvalidPlan, not_of(Plan), Table, right, "plan")
        for states, position in (([], None), ([QUIET, []], 1)):
            self.fails_in_sequence(Table, right, {
                "plan": ("p", InvalidPlan, ["p"]), "states": (states, InvalidStates, [position]), "begins": (0, InvalidBegins, [0]),
            })

    def test_what_is_told_is_plain(self):
        entries = [Row((Whole(3), Whole(0))), Row((Whole(2), None))] * 2
        table = Table(SQUARES, [[entries]], Row((Whole(0),) * 4))
        self.holds(table, [[[(3, 0), (2, None)] * 2]], ZEROS)
        self.assertEqual(repr(table), repr(Table(SQUARES, [[[(3, 0), (2, None)] * 2]], ZEROS)))
        self.is_integer(table.begin(Word("north")), 0)

    def test_passed_lists_stay_and_are_copied(self):
        states = odd_states(SQUARES, 4)
        before = odd_states(SQUARES, 4)
        table = Table(SQUARES, states)
        self.assertEqual(states, before)
        states[0][0][0] = (3, 3)
        states[1][0] = []
        states.clear()
        self.holds(table, before, (0, 1, 2, 3))

    def test_everything_listed_stands_in_the_class(self):
        methods = "__init__ __len__ begins begin __getitem__ with_entry unlike __eq__ __repr__".split()
        self.stands_in_class(Table, "movecells.tables", methods=methods, properties=("plan",), class_methods=("right",),
                             values=(("MOST_STATES", 8),))
        table = Table.right(SQUARES)
        self.is_integer(table.MOST_STATES, 8)
        with self.assertRaises(AttributeError):
            table.plan = MIXED
        self.assertRaises(TypeError, iter, table)
        self.has_parameters(Table.right, "plan")
        self.has_parameters(table.begins)
        self.has_parameters(table.begin, "direction")
        self.has_parameters(table.with_entry, "state", "phase", "sign", "entry")
        self.has_parameters(table.unlike, "other")


class TestRight(Checks, unittest.TestCase):
    def test_each_direction_plan_and_sign(self):
        for plan in PLANS + [Plan.squares(4), Plan.squares(3), MIXED]:
            table = Table.right(plan)
            self.assertIs(table.__class__, Table)
            self.is_integer(len(table), 4)
            self.is_name(table.begins(), (0, 1, 2, 3))
            self.assertEqual(table.plan, plan)
            states = search_models.right_states(plan)
            for state in range(4):
                for phase in range(len(plan)):
                    for sign in range(models.signs_of(models.round_at(plan, phase))):
                        self.assertEqual(table[state, phase, sign], states[state][phase][sign])
            self.assertEqual(table, Table(plan, states))

    def test_halves_by_the_words_of_the_document(self):
        self.assertEqual(repr(Table.right(plan=SQUARES)), (
            "Table(Plan([('east', 2), ('north', 2)]), [[[(2, None), (3, None), (0, 0), (1, 0)]],"
            " [[(2, 1), (3, 1), (0, None), (1, None)]], [[(1, None), (0, 2), (3, None), (2, 2)]],"
            " [[(1, 3), (0, None), (3, 3), (2, None)]]], (0, 1, 2, 3))"
        ))

    def test_wrong_plans(self):
        self.fails_for_each(InvalidPlan, not_of(Plan), Table.right, {}, "plan")


class TestTold(Checks, unittest.TestCase):
    def test_begin(self):
        table = odd_table(SQUARES, 5, begins=(3, 0, 1, 4))
        told = [table.begin("east"), table.begin("west"), table.begin(direction="north"), table.begin("south")]
        for value, state in zip(told, (3, 0, 1, 4)):
            self.is_integer(value, state)
        self.fails_for_each(InvalidDirection, wrong_directions(), table.begin, {}, "direction")

    def test_wrong_indexes(self):
        for plan in (SQUARES, MIXED):
            table = odd_table(plan)
            for value in odd_values() + [0, 1, (0, 0), (0, 0, 0, 0), [0, 0, 0], slice(0, 1), "000"]:
                self.fails(InvalidState, [value], lambda: table[value])
            for state in no_counts_below(5):
                for phase, sign in ((0, 0), (9, 0), (True, None)):
                    self.fails(InvalidState, [state], lambda: table[state, phase, sign])
                    self.fails(InvalidState, [state], table.with_entry, state, phase, sign, None)
            for phase in no_counts_below(len(plan)):
                for sign in (0, 99, True):
                    self.fails(InvalidPhase, [phase], lambda: table[4, phase, sign])
                    self.fails(InvalidPhase, [phase], table.with_entry, 4, phase, sign, 0)
            for phase in range(len(plan)):
                for sign in no_counts_below(models.signs_of(models.round_at(plan, phase))):
                    self.fails(InvalidSign, [sign], lambda: table[0, phase, sign])
                    self.fails(InvalidSign, [sign], table.with_entry, 0, phase, sign, [])


class TestWithEntry(Checks, unittest.TestCase):
    def test_just_one_entry_is_another_one(self):
        for plan in PLANS:
            table = odd_table(plan)
            before = repr(table)
            for state, phase in itertools.product(range(5), range(len(plan))):
                signs = models.signs_of(models.round_at(plan, phase))
                for sign in models.some(range(signs), 3):
                    for entry in ((0, None), (signs - 1, 4), ((sign + 1) % signs, 0)):
                        other = table.with_entry(state, phase, sign, entry)
                        self.assertIs(other.__class__, Table)
                        self.assertEqual(other[state, phase, sign], entry)
                        states = odd_states(plan)
                        states[state][phase][sign] = entry
                        self.assertEqual(other, Table(plan, states, table.begins()))
            self.assertEqual(repr(table), before)

    def test_by_names(self):
        table = Table.right(SQUARES).with_entry(entry=(3, 0), sign=1, phase=0, state=2)
        self.assertEqual(table[2, 0, 1], (3, 0))

    def test_wrong_entries(self):
        table = odd_table(MIXED, 3, begins=ZEROS)
        for state, phase in itertools.product(range(3), range(2)):
            for entry in wrong_entries(6, 3):
                self.fails(InvalidEntry, [entry], table.with_entry, state, phase, 5, entry)
        self.assertEqual(table, odd_table(MIXED, 3, begins=ZEROS))

    def test_several_errors_at_once(self):
        self.fails_in_sequence(Table.right(MIXED).with_entry, {"state": 0, "phase": 1, "sign": 5, "entry": (0, None)}, {
            "state": (4, InvalidState, [4]), "phase": (2, InvalidPhase, [2]), "entry": (0, InvalidEntry, [0]),
        })
        self.fails_in_sequence(Table.right(MIXED).with_entry, {"state": 0, "phase": 1, "sign": 5, "entry": (0, None)}, {
            "state": (-1, InvalidState, [-1]), "sign": (6, InvalidSign, [6]), "entry": (None, InvalidEntry, [None]),
        })


class TestUnlike(Checks, unittest.TestCase):
    def test_where_entries_differ(self):
        for plan in PLANS:
            one, other = odd_states(plan, 5, 1), odd_states(plan, 5, 4)
            goal = [
                (state, phase, sign)
                for state in range(5)
                for phase in range(len(plan))
                for sign in range(models.signs_of(models.round_at(plan, phase)))
                if one[state][phase][sign] != other[state][phase][sign]
            ]
            table = Table(plan, one, (3, 0, 1, 0))
            told = table.unlike(Table(plan, other, (3, 0, 1, 0)))
            self.assertIs(told.__class__, list)
            self.assertEqual(told, goal)
            self.assertGreater(len(told), 5)
            for place in told[:5]:
                self.is_name(place, place)
            self.assertEqual(table.unlike(other=Table(plan, one, (3, 0, 1, 0))), [])
            told = table.unlike(table)
            told.append(1)
            self.assertEqual(table.unlike(table), [])

    def test_one_entry(self):
        table = Table.right(MIXED)
        for state, phase, sign in ((0, 0, 0), (3, 1, 5), (2, 0, 3)):
            entry = table[state, phase, sign]
            for other in ((entry[0], None if entry[1] is not None else 1), ((entry[0] + 1) % 6, entry[1])):
                changed = table.with_entry(state, phase, sign, other)
                self.assertEqual(table.unlike(changed), [(state, phase, sign)])
                self.assertEqual(changed.unlike(table), [(state, phase, sign)])

    def test_wrong_tables(self):
        table = Table(SQUARES, [QUIET, LOUD, QUIET, LOUD])
        wrong = not_of(Table) + [
            Table(SQUARES, [QUIET, LOUD, QUIET, LOUD], (0, 1, 2, 2)), Table(SQUARES, [QUIET, LOUD, QUIET, LOUD, QUIET]),
            Table.right(Plan([("north", 2), ("east", 2)])), Table.right(MIXED), repr(table), [QUIET, LOUD, QUIET, LOUD],
        ]
        self.fails_for_each(InvalidTable, wrong, table.unlike, {}, "other")


class TestEqual(Checks, unittest.TestCase):
    def test_tables_that_differ_in_one_thing(self):
        tables = [
            Table(SQUARES, [QUIET, LOUD], ZEROS), Table(SQUARES, [QUIET, LOUD], (0, 0, 0, 1)), Table(SQUARES, [LOUD, QUIET], ZEROS),
            Table(SQUARES, [QUIET, QUIET], ZEROS), Table(SQUARES, [QUIET, LOUD, QUIET], ZEROS),
            Table(Plan([("north", 2), ("east", 2)]), [QUIET, LOUD], ZEROS),
            Table(SQUARES, [QUIET, LOUD], ZEROS).with_entry(1, 0, 3, (3, None)),
            Table(SQUARES, [QUIET, LOUD], ZEROS).with_entry(1, 0, 3, (2, 0)),
        ]
        for at, one in enumerate(tables):
            for position, other in enumerate(tables):
                self.assertIs(one == other, at == position)
                self.assertIs(one != other, at != position)
        self.assertIs(tables[0] == Table(Plan.squares(2), (tuple(QUIET), [tuple(LOUD[0])]), ZEROS), True)

    def test_other_kinds(self):
        table = Table.right(SQUARES)
        for value in odd_values() + [0, repr(table), (SQUARES, [QUIET], ZEROS)]:
            self.assertIs(table == value, False)
            self.assertIs(table != value, True)

    def test_repr(self):
        table = Table(SQUARES, (tuple(QUIET), LOUD), (1, 0, 1, 0))
        self.assertEqual(repr(table), (
            "Table(Plan([('east', 2), ('north', 2)]), [[[(0, None), (1, None), (2, None), (3, None)]],"
            " [[(0, 0), (1, 0), (2, 0), (3, 0)]]], (1, 0, 1, 0))"
        ))
        for plan in PLANS:
            table = odd_table(plan)
            self.assertEqual(eval(repr(table), {"Plan": Plan, "Table": Table}), table)


if __name__ == "__main__":
    unittest.main()
