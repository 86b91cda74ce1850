"""movecells/steps.py: steps, moves, and the true neighbours [2], [42], [44], [45]."""

import inspect
import itertools
import unittest

from movecells import steps as file
from movecells.errors import InvalidDirection, InvalidEdges, InvalidMap, InvalidMove, InvalidName, InvalidTable, NoNeighbour
from movecells.maps import Map
from movecells.names import cell, children, name_of
from movecells.plans import Plan
from movecells.steps import moved, neighbour, ring, step, steps
from movecells.tables import Table
from tests import models, search_models
from tests.models import MOVES
from tests.search_models import DIRECTIONS, odd_states, odd_table, right_states
from tests.support import Alike, Checks, Row, Whole, Word, no_integers, not_of, odd_values
from tests.test_names import wrong_names
from tests.test_tables import wrong_directions

SQUARES = Plan.squares(2)
PLANS = [Plan(*rounds) for rounds in models.ROUNDS]
TABLE = Table.right(SQUARES)
AREA = Map(SQUARES, 8, 4, closed=["east"])
EDGES = list(itertools.product(("seam", "stop"), repeat=2))


def wrong_moves():
    """Values that are no moves."""
    found = [(value, 0) for value in no_integers() + [2, -2, 10 ** 60]] + [(0, value) for value in no_integers() + [2, -2]]
    found = found + [value for value in odd_values() if not isinstance(value, tuple)] + [(), (0,), (0, 0, 0), ((0, 0),)]
    return found + [[0, 0], [1, 0], 0, "00", {0: 0, 1: 1}, Alike(), (True, 0), (0, False), (Alike(), 0)]


def wrong_edges():
    """Values that are no edges."""
    words = odd_values() + ["Seam", "open", "stopstop", 0]
    found = [(value, "seam") for value in words] + [("stop", value) for value in words] + words
    return found + [["seam", "stop"], ("seam",), ("seam", "stop", "seam"), ("se", "am"), {"seam": 0, "stop": 1}, Alike()]


class StepCase(Checks, unittest.TestCase):
    def is_step(self, told, goal):
        self.assertIs(told.__class__, tuple)
        self.assertEqual(len(told), 2)
        self.is_name(told[0], goal[0])
        self.assertIs(told[1], goal[1])

    def tables(self):
        """The right tables and odd ones, with their states and begins."""
        for plan in PLANS:
            yield plan, Table.right(plan), right_states(plan), (0, 1, 2, 3)
            for salt, begins in ((1, (3, 0, 1, 0)), (2, (2, 2, 4, 1))):
                yield plan, odd_table(plan, 5, salt, begins), odd_states(plan, 5, salt), begins

    def some_names(self, plan):
        """Names of small finenesses, and long ones over which a step carries far."""
        greatest = tuple(models.signs_of(models.round_at(plan, at)) - 1 for at in range(40))
        found = [name for f in range(4) for name in models.some(models.all_names(plan, f), 30)]
        return found + [(0,) * 40, greatest, (0,) + greatest[1:], greatest[:1] + (0,) * 39, greatest[:-1] + (0,)]


class TestStep(StepCase):
    def test_all_tables_directions_and_names(self):
        for plan, table, states, begins in self.tables():
            for name in self.some_names(plan):
                for direction in DIRECTIONS:
                    self.is_step(step(table, name, direction), search_models.step(states, begins, name, direction))

    def test_the_empty_name_comes_to_the_edge(self):
        for plan, table, _, _ in self.tables():
            for direction in DIRECTIONS:
                self.is_step(step(table, (), direction), ((), True))

    def test_in_the_midst_and_at_the_edge(self):
        for name, direction, goal in (
            ((0, 2), "east", ((2, 0), False)), ((2,), "east", ((0,), True)), ((0, 0), "west", ((2, 2), True)),
            ((3, 0), "west", ((1, 2), False)), ((0, 1), "north", ((1, 0), False)), ((1, 3), "north", ((0, 2), True)),
            ((3, 2), "south", ((2, 3), False)), ((2, 0), "south", ((3, 1), True)), ((0, 0), "east", ((0, 2), False)),
        ):
            self.is_step(step(TABLE, name, direction), goal)
        self.is_step(step(direction="north", name=(0,), table=TABLE), ((1,), False))

    def test_over_a_carry_of_many_signs(self):
        self.is_step(step(TABLE, (0,) + (2,) * 47, "east"), ((2,) + (0,) * 47, False))
        self.is_step(step(TABLE, (2,) * 48, "east"), ((0,) * 48, True))
        self.is_step(step(TABLE, (2,) + (0,) * 47, "west"), ((0,) + (2,) * 47, False))
        name = name_of(SQUARES, 1000, (2 ** 999 - 1, 5))
        self.is_step(step(TABLE, name, "east"), (name_of(SQUARES, 1000, (2 ** 999, 5)), False))
        longer = children(SQUARES, name)[3]
        self.is_step(step(TABLE, longer, "east"), (name_of(SQUARES, 1000, (2 ** 999, 5)) + (1,), False))

    def test_a_table_that_carries_otherwise(self):
        table = TABLE.with_entry(0, 0, 2, (3, 2)).with_entry(2, 0, 0, (0, 1)).with_entry(0, 0, 1, (1, None))
        self.is_step(step(table, (1, 0, 2), "east"), ((3, 0, 3), True))
        self.is_step(step(table, (3, 0, 2), "east"), ((1, 0, 3), False))
        self.is_step(step(table, (3, 1), "east"), ((3, 1), False))

    def test_wrong_arguments(self):
        name = (4,)
        right = {"table": TABLE, "name": (1, 2), "direction": "west"}
        self.fails_for_each(InvalidTable, not_of(Table) + [SQUARES], step, right, "table")
        self.fails_for_each(InvalidName, wrong_names(SQUARES), step, right, "name")
        self.fails_for_each(InvalidDirection, wrong_directions(), step, right, "direction")
        self.fails_in_sequence(step, right, {
            "table": (0, InvalidTable, [0]), "name": (name, InvalidName, [name]), "direction": ("up", InvalidDirection, ["up"]),
        })


class TestSteps(StepCase):
    def test_none_one_and_many(self):
        ways = [[], ["east"], ["north", "north"], list(DIRECTIONS), ["west", "south"] * 20, ["east"] * 300]
        for plan, table, states, begins in self.tables():
            for name in models.some(self.some_names(plan), 12):
                for directions in ways:
                    goal, now = [], name
                    for direction in directions:
                        goal.append(search_models.step(states, begins, now, direction))
                        now = goal[-1][0]
                    for made in (list, tuple):
                        told = list(steps(table, name, made(directions)))
                        self.assertEqual(told, goal)
                        for one in told[:3]:
                            self.is_step(one, one)

    def test_a_generator(self):
        directions = ["east", "north", "west"]
        told = steps(directions=directions, name=(0, 2), table=TABLE)
        self.assertTrue(inspect.isgenerator(told))
        self.is_step(next(told), ((2, 0), False))
        other = steps(TABLE, (2,), ["east"])
        self.is_step(next(other), ((0,), True))
        self.is_step(next(told), ((2, 1), False))
        self.assertRaises(StopIteration, next, other)
        self.is_step(next(told), ((0, 3), False))
        self.assertRaises(StopIteration, next, told)
        self.assertEqual(directions, ["east", "north", "west"])

    def test_lists_are_read_when_the_iteration_begins(self):
        directions = ["up"]
        told = steps(TABLE, (0,), directions)
        directions[0] = "north"
        self.assertEqual(list(told), [((1,), False)])

    def test_errors_only_when_the_iteration_begins(self):
        for table in not_of(Table):
            told = steps(table, None, None)
            self.fails(InvalidTable, [table], next, told)
            self.assertRaises(StopIteration, next, told)
        for name in wrong_names(SQUARES):
            self.fails(InvalidName, [name], next, steps(TABLE, name, "east"))
        for value in odd_values() + [0, "north", {"east": 1}, iter(["east"])]:
            if not isinstance(value, (list, tuple)):
                self.fails(InvalidDirection, [value], next, steps(TABLE, (0,), value))
        for value in wrong_directions():
            self.fails(InvalidDirection, [value], next, steps(TABLE, (0,), [value]))
            self.fails(InvalidDirection, [value], next, steps(TABLE, (0,), ("east", "north", value, "down")))


class TestMoved(StepCase):
    def is_moved(self, told, goal):
        if goal is None:
            self.assertIsNone(told)
        else:
            self.is_name(told, goal)

    def test_all_tables_moves_and_edges(self):
        for plan, table, states, begins in self.tables():
            for name in models.some(self.some_names(plan), 25):
                for move, edges in itertools.product(MOVES, EDGES):
                    self.is_moved(moved(table, name, move, edges), search_models.moved(states, begins, name, move, edges))

    def test_what_is_told_is_plain(self):
        for move in ((0, 0), Row((Whole(1), 0))):
            self.is_moved(moved(TABLE, Row((0, 1)), move, Row((Word("stop"), "stop"))), (0, 1) if move == (0, 0) else (0, 3))
        self.is_step(step(TABLE, Row((0, 1)), Word("east")), ((0, 3), False))
        self.assertEqual(ring(AREA, Row((0,))), ring(AREA, (0,)))

    def test_at_edges_and_corners(self):
        for name, move, edges, goal in (
            ((2,), (1, 0), ("seam", "stop"), (0,)), ((2,), (1, 0), ("stop", "seam"), None), ((2,), (1, 1), ("seam", "stop"), (1,)),
            ((3,), (1, 1), ("seam", "seam"), (0,)), ((3,), (1, 1), ("seam", "stop"), None), ((3,), (1, 1), ("stop", "seam"), None),
            ((3,), (0, 1), ("stop", "seam"), (2,)), ((3,), (0, 1), ("stop", "stop"), None), ((3,), (-1, -1), ("stop", "stop"), (0,)),
            ((0,), (-1, -1), ("seam", "seam"), (3,)), ((0,), (-1, 0), ("stop", "seam"), None), ((), (0, 0), ("stop", "stop"), ()),
            ((), (1, 0), ("seam", "stop"), ()), ((), (1, 0), ("stop", "seam"), None), ((), (0, -1), ("seam", "stop"), None),
        ):
            self.is_moved(moved(TABLE, name, move, edges), goal)
        self.is_moved(moved(edges=("stop", "stop"), move=(1, 0), name=(0, 2), table=TABLE), (2, 0))

    def test_right_tables_make_the_neighbours(self):
        for area in models.sample_maps(lengths=models.LENGTHS[:1]):
            table = Table.right(area.plan)
            edges = tuple("seam" if axis in area.closed else "stop" for axis in ("east", "north"))
            for f in range(3):
                for name in models.some(models.all_names(area.plan, f), 16):
                    for move in MOVES:
                        goal = ring(area, name).get(move)
                        self.is_moved(moved(table, name, move, edges), goal)

    def test_wrong_arguments(self):
        name, move, edges = (4,), (2, 0), ("seam", "go")
        right = {"table": TABLE, "name": (1, 2), "move": (0, 0), "edges": ("stop", "seam")}
        self.fails_for_each(InvalidTable, not_of(Table), moved, right, "table")
        self.fails_for_each(InvalidName, wrong_names(SQUARES), moved, right, "name")
        self.fails_for_each(InvalidMove, wrong_moves(), moved, right, "move")
        self.fails_for_each(InvalidEdges, wrong_edges(), moved, right, "edges")
        self.fails_in_sequence(moved, right, {
            "table": (None, InvalidTable, [None]), "name": (name, InvalidName, [name]),
            "move": (move, InvalidMove, [move]), "edges": (edges, InvalidEdges, [edges]),
        })


class TestNeighbour(StepCase):
    def test_open_and_closed_axes(self):
        for area in models.sample_maps(lengths=models.LENGTHS[:1]):
            for f in range(3):
                for name in models.some(models.all_names(area.plan, f), 12):
                    told = ring(area, name)
                    self.assertIs(told.__class__, dict)
                    goal = {move: models.neighbour(area, name, move) for move in MOVES}
                    self.assertEqual(list(told.items()), [(move, goal[move]) for move in MOVES if goal[move] is not None])
                    for move in MOVES:
                        if goal[move] is None:
                            self.fails_with(area, name, move)
                        else:
                            self.is_name(neighbour(area, name, move), goal[move])

    def fails_with(self, area, name, move):
        self.fails(NoNeighbour, [name, move], neighbour, area, name, move)

    def test_one_column(self):
        flat = Map(Plan([("north", 2)], [("east", 2)]), 8, 4, closed=["east"])
        self.is_name(neighbour(flat, (0,), (1, 0)), (0,))
        self.is_name(neighbour(flat, (0,), (-1, 1)), (1,))
        self.fails_with(flat, (1,), (0, 1))
        self.fails_with(Map(flat.plan, 8, 4), (0,), (1, 0))
        self.assertEqual(ring(flat, (0,)), {
            (-1, 0): (0,), (-1, 1): (1,), (0, 0): (0,), (0, 1): (1,), (1, 0): (0,), (1, 1): (1,),
        })

    def test_two_columns(self):
        self.is_name(neighbour(AREA, (0,), (1, 0)), (2,))
        self.is_name(neighbour(AREA, (0,), (-1, 0)), (2,))
        self.is_name(neighbour(move=(-1, 1), name=(2,), area=AREA), (1,))
        self.fails_with(AREA, (0,), (0, -1))

    def test_the_empty_name(self):
        self.assertEqual(ring(Map(SQUARES, 8, 4), ()), {(0, 0): ()})
        self.assertEqual(ring(AREA, ()), {(-1, 0): (), (0, 0): (), (1, 0): ()})
        self.fails_with(AREA, (), (0, 1))

    def test_long_names(self):
        columns, rows = SQUARES.counts(1000)
        name = name_of(SQUARES, 1000, (columns - 1, 0))
        self.is_pair(cell(SQUARES, neighbour(AREA, name, (1, 1))), (0, 1))
        self.fails_with(AREA, name, (1, -1))
        longer = children(SQUARES, name)[2]
        self.is_pair(cell(SQUARES, neighbour(AREA, longer, (1, 1))), (0, 1))
        self.assertEqual(sorted(ring(AREA, longer)), [(-1, 0), (-1, 1), (0, 0), (0, 1), (1, 0), (1, 1)])

    def test_a_ring_is_new_each_time(self):
        told = ring(area=AREA, name=(1,))
        told.clear()
        self.assertEqual(len(ring(AREA, (1,))), 6)

    def test_wrong_arguments(self):
        name, move = (4,), (0, 2)
        right = {"area": AREA, "name": (1, 2), "move": (0, 0)}
        wrong = {"area": (0, InvalidMap, [0]), "name": (name, InvalidName, [name]), "move": (move, InvalidMove, [move])}
        self.fails_in_sequence(neighbour, right, wrong)
        self.fails_for_each(InvalidMap, not_of(Map), neighbour, right, "area")
        self.fails_for_each(InvalidName, wrong_names(SQUARES), neighbour, right, "name")
        self.fails_for_each(InvalidMove, wrong_moves(), neighbour, right, "move")
        self.fails(InvalidMove, [move], neighbour, AREA, (), move)
        del right["move"], wrong["move"]
        self.fails_in_sequence(ring, right, wrong)
        self.fails_for_each(InvalidMap, not_of(Map), ring, right, "area")
        self.fails_for_each(InvalidName, wrong_names(SQUARES), ring, right, "name")


class TestFile(Checks, unittest.TestCase):
    def test_everything_listed_is_defined_here(self):
        for name, parameters in (
            ("step", ["table", "name", "direction"]), ("steps", ["table", "name", "directions"]),
            ("moved", ["table", "name", "move", "edges"]), ("neighbour", ["area", "name", "move"]), ("ring", ["area", "name"]),
        ):
            self.assertEqual(getattr(file, name).__module__, "movecells.steps")
            self.has_parameters(getattr(file, name), *parameters)
        self.assertTrue(inspect.isgeneratorfunction(steps))


if __name__ == "__main__":
    unittest.main()
