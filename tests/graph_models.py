"""What the document says of targets, states, claims and texts, reckoned in other ways than the package does."""

import functools
import itertools
import random
from fractions import Fraction

from movecells.gauges import Gauge
from movecells.rules import Rule
from movecells.tables import Table
from tests import models, search_models
from tests.models import MOVES, map_of, parts_of, place_of, round_at, sign_at, signs_of
from tests.search_models import odd_table

STAY = (0, 0)
EDGES = list(itertools.product(("seam", "stop"), repeat=2))
# Plans with rounds of unlike many signs, one of them a round that cuts one axis alone.
ROUNDS = [models.ROUNDS[at] for at in (0, 1, 3, 4, 5, 7)]
KEPT = {}


def table_with_states(plan, states, begins=(0, 1, 2, 3)):
    """A table of one round whose states are told as lists of entries."""
    return Table(plan, [[entries] for entries in states], begins)


def spoiled(plan, salt):
    """The right table with one wrong entry."""
    rnd = random.Random(salt)
    phase = rnd.randrange(len(plan))
    signs = signs_of(round_at(plan, phase))
    table = Table.right(plan)
    place = (rnd.randrange(4), phase, rnd.randrange(signs))
    sign, state = table[place]
    if rnd.random() < 0.5:
        return table.with_entry(*place, (sign, place[0] if state is None else None))
    return table.with_entry(*place, ((sign + 1) % signs, state))


def written_otherwise(plan, salt=1):
    """A table that is alike to the right one: the states are told twice, in another sequence."""
    rnd = random.Random(salt)
    right = search_models.right_states(plan)
    order = rnd.sample(range(8), 8)
    twins = {state: [at for at in range(8) if order[at] % 4 == state] for state in range(4)}
    states = []
    for at in range(8):
        state = right[order[at] % 4]
        states.append([
            [(sign, None if behind is None else rnd.choice(twins[behind])) for sign, behind in entries]
            for entries in state
        ])
    return Table(plan, states, tuple(rnd.choice(twins[state]) for state in range(4)))


@functools.lru_cache(maxsize=None)
def sample_rules():
    """Rules over plans of one to three rounds, maps of all sorts, both kinds, right and wrong tables, all edges."""
    rnd = random.Random(7)
    found = []
    sorts = itertools.product(ROUNDS, models.CLOSED, ("box", "sum"))
    for at, (rounds, closed, kind) in enumerate(sorts):
        area = map_of(rounds, models.LENGTHS[at % 2], closed)
        gauge = Gauge(area, *[(1, 1), models.ratios((Fraction(1, 2), Fraction(2, 3)))][at // 2 % 2], kind)
        plan = area.plan
        whole = Rule.whole(gauge)
        found.append(whole)
        found.append(whole.with_table(spoiled(plan, at)))
        found.append(whole.with_edges(EDGES[at % 4]) - rnd.sample(MOVES, at % 3))
        looks = {}
        for phase in range(len(plan)):
            for sign in range(plan.signs(phase)):
                if rnd.random() < 0.6:
                    looks[(phase, sign)] = [STAY] + [move for move in MOVES if move != STAY and rnd.random() < 0.8]
        table = [Table.right(plan), spoiled(plan, at + 1), written_otherwise(plan), odd_table(plan, salt=at)][at % 4]
        found.append(Rule(gauge, table, MOVES[at % 5:], edges=EDGES[at // 3 % 4], looks=looks))
    return found


def some_rules(many):
    """About so many of these rules."""
    return models.some(sample_rules(), many)


def taken(gauge):
    """The taken phases, and for each one its least fineness from 1 on."""
    many = len(gauge.area.plan)
    found = {}
    for phase in range(many):
        f = phase if phase else many
        if search_models.greatest(gauge, f + 1) < search_models.greatest(gauge, f):
            found[phase] = f
    return found


def list_of(rule, phase, sign):
    return tuple(sorted(rule.looks().get((phase, sign), rule.base_moves())))


def targets(rule):
    """The targets by the words of [71]."""
    found = set()
    for phase, f in taken(rule.gauge).items():
        for sign in range(rule.gauge.area.plan.signs(phase)):
            for shift in search_models.reached(rule.gauge, f, sign):
                found.add((phase, shift, list_of(rule, phase, sign)))
    return sorted(target for target in found if target[1] != STAY)


def begins_of(rule, move):
    """The states in which the steps of a move begin."""
    begins = rule.table.begins()
    found = []
    if move[0]:
        found.append(begins[0] if move[0] == 1 else begins[1])
    if move[1]:
        found.append(begins[2] if move[1] == 1 else begins[3])
    return tuple(found)


def start(rule, target):
    """The start by the words of [72]."""
    phase, (i, j), moves = target
    last = len(rule.gauge.area.plan) - 1
    return (phase - 1 if phase else last, i, j, tuple((move, begins_of(rule, move)) for move in moves))


def carried(number, many, parts):
    """The neighbour's column or row, and what is left to carry."""
    if number + many == -1:
        return parts - 1, -1
    if number + many == parts:
        return 0, 1
    return number + many, 0


def entries_of(table):
    """The states of a table as lists, kept with the table itself."""
    if id(table) not in KEPT:
        KEPT[id(table)] = (table, search_models.states_of(repr(table)))
    return KEPT[id(table)][1]


def made(rule, phase, sign, stands):
    """What the steps make of a sign, and their new stands."""
    states = entries_of(rule.table)
    behind = []
    for state in stands:
        if state is None:
            behind.append(None)
        else:
            sign, state = states[state][phase][sign]
            behind.append(state)
    return sign, tuple(behind)


def following(rule, state, sign):
    """The state to which a state leads, by the words of [73]."""
    phase, east, north, alive = state
    cuts = round_at(rule.gauge.area.plan, phase)
    (column, row), (columns, rows) = place_of(cuts, sign), parts_of(cuts)
    column, east = carried(column, east, columns)
    row, north = carried(row, north, rows)
    goal = sign_at(cuts, (column, row))
    left = []
    for move, stands in alive:
        now, behind = made(rule, phase, sign, stands)
        if now == goal:
            left.append((move, behind))
    last = len(rule.gauge.area.plan) - 1
    return (phase - 1 if phase else last, east, north, tuple(left))


def is_stopped(rule, move, stands):
    """Whether a step that is not done has the word stop."""
    axes = [axis for axis in (0, 1) if move[axis]]
    return any(state is not None and rule.edges[axis] == "stop" for axis, state in zip(axes, stands))


def is_bad(rule, state):
    """Whether a state is an end and bad, by the words of [74]."""
    phase, east, north, alive = state
    if phase != len(rule.gauge.area.plan) - 1:
        return False
    closed = rule.gauge.area.closed
    if (east and "east" not in closed) or (north and "north" not in closed):
        return False
    return all(is_stopped(rule, move, stands) for move, stands in alive)


def all_states(rule, target, most=10 ** 9):
    """All states that are come to, in their sequence."""
    rows = [start(rule, target)]
    there = set(rows)
    for state in rows:
        for sign in range(signs_of(round_at(rule.gauge.area.plan, state[0]))):
            other = following(rule, state, sign)
            if other not in there:
                there.add(other)
                rows.append(other)
        if len(rows) > most:
            return rows
    return rows


def moved(rule, name, move):
    """The name that a move of the rule makes, or None."""
    return search_models.moved(entries_of(rule.table), rule.table.begins(), name, move, rule.edges)


def made_names(rule, name, moves):
    """All names that moves make, as often as they are made."""
    found = [moved(rule, name, move) for move in moves]
    return [other for other in found if other is not None]


def is_missed(rule, name, moves, shift):
    """Whether there is a neighbour, and no move of the list makes it."""
    goal = models.neighbour_pair(rule.gauge.area, name, shift)
    if goal is None:
        return False
    plan = rule.gauge.area.plan
    return goal not in [models.pair_of(plan, other) for other in made_names(rule, name, moves)]


def missed_at(rule, f):
    """The targets by which something is missed at a fineness, by looking through all names."""
    plan = rule.gauge.area.plan
    if f % len(plan) not in taken(rule.gauge):
        return []
    goals = [target for target in targets(rule) if target[0] == f % len(plan)]
    every = models.all_names(plan, f)
    return [goal for goal in goals if any(is_missed(rule, name, goal[2], goal[1]) for name in every)]


def twice_at(rule, f):
    """Whether some name is asked twice at a fineness, by looking through all names."""
    plan = rule.gauge.area.plan
    phase = f % len(plan)
    if phase not in taken(rule.gauge):
        return False
    lists = {list_of(rule, phase, sign) for sign in range(plan.signs(phase))}
    for name in models.all_names(plan, f):
        for moves in lists:
            asked = made_names(rule, name, moves)
            if len(asked) != len(set(asked)):
                return True
    return False
