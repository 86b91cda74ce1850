"""What the document says of tables, gauges and rules, reckoned in other ways than the package does."""

import functools
import itertools
from fractions import Fraction

from movecells.gauges import Gauge
from movecells.plans import Plan
from movecells.ratios import Ratio
from movecells.tables import Table
from tests.models import LENGTHS, MOVES, fraction, name_at, parts_of, place_of, round_at, sample_maps, sides, sign_at
from tests.models import signs_of

DIRECTIONS = ("east", "west", "north", "south")


def right_states(plan):
    """The states of the right table, by the words of [43]."""
    states = []
    for direction in DIRECTIONS:
        state = []
        for at in range(len(plan)):
            cuts = round_at(plan, at)
            columns, rows = parts_of(cuts)
            entries = []
            for sign in range(signs_of(cuts)):
                column, row = place_of(cuts, sign)
                carry = None
                if direction == "east":
                    column, carry = (0, 0) if column == columns - 1 else (column + 1, None)
                if direction == "west":
                    column, carry = (columns - 1, 1) if column == 0 else (column - 1, None)
                if direction == "north":
                    row, carry = (0, 2) if row == rows - 1 else (row + 1, None)
                if direction == "south":
                    row, carry = (rows - 1, 3) if row == 0 else (row - 1, None)
                entries.append((sign_at(cuts, (column, row)), carry))
            state.append(entries)
        states.append(state)
    return states


def odd_states(plan, many=5, salt=1):
    """States with entries of all sorts, each time the same ones."""
    states = []
    for state in range(many):
        rounds = []
        for at in range(len(plan)):
            signs = signs_of(round_at(plan, at))
            entries = []
            for sign in range(signs):
                mix = (state * 7 + at * 5 + sign * 3 + salt * 11) * 2654435761 // 97
                carry = [None, mix % many, (mix // 7) % many][mix // 3 % 3]
                entries.append(((mix // 5) % signs, carry))
            rounds.append(entries)
        states.append(rounds)
    return states


def step(states, begins, name, direction):
    """A step by the words of [42]."""
    signs = list(name)
    state = begins[DIRECTIONS.index(direction)]
    at = len(signs)
    while state is not None and at > 0:
        at -= 1
        signs[at], state = states[state][at % len(states[state])][signs[at]]
    return tuple(signs), state is not None


def moved(states, begins, name, move, edges):
    """A move by the words of [44]."""
    for number, ahead, back, word in zip(move, ("east", "north"), ("west", "south"), edges):
        if number:
            name, has_come = step(states, begins, name, ahead if number == 1 else back)
            if has_come and word == "stop":
                return None
    return name


def greatest(gauge, f):
    """The greatest distance of a fineness."""
    return min(side * fraction(reach) for side, reach in zip(sides(gauge.area, f), gauge.reaches))


def fineness(gauge, d, most=15):
    """The fineness of a distance that is not too small, by trying them all."""
    return max([0] + [f for f in range(1, most) if greatest(gauge, f) >= fraction(d)])


def least_gaps(gauge, f, sign, move):
    """The least gaps of a move at a fineness, by the words of [53]."""
    cuts = round_at(gauge.area.plan, f)
    found = []
    for number, side, part, parts in zip(move, sides(gauge.area, f), place_of(cuts, sign), parts_of(cuts)):
        found.append(side * {0: Fraction(0), 1: 1 - Fraction(part + 1, parts), -1: Fraction(part, parts)}[number])
    return found


def reached(gauge, f, sign):
    """The moves that are reached at a fineness with a next sign."""
    found = []
    for move in MOVES:
        gaps = least_gaps(gauge, f, sign, move)
        if move == (0, 0) or (max(gaps) if gauge.kind == "box" else sum(gaps)) < greatest(gauge, f):
            found.append(move)
    return found


@functools.lru_cache(maxsize=None)
def states_of(shown):
    """The states that the repr of a table shows."""
    table = eval(shown, {"Plan": Plan, "Table": Table})
    return [
        [[table[state, at, sign] for sign in range(table.plan.signs(at))] for at in range(len(table.plan))]
        for state in range(len(table))
    ]


def asked(rule, place, d):
    """The asked names, by the words of [62]."""
    area = rule.gauge.area
    f = fineness(rule.gauge, d)
    if f == 0:
        return [()]
    name = name_at(area, place, f + 1)
    moves = rule.looks().get((f % len(area.plan), name[-1]), rule.base_moves())
    states = states_of(repr(rule.table))
    made = [moved(states, rule.table.begins(), name[:-1], move, rule.edges) for move in sorted(moves)]
    return [other for other in made if other is not None]


def sample_gauges():
    """Gauges of maps of all sorts, with reaches of all sorts, of both kinds."""
    reaches = [(1, 1), (Ratio(1, 2), Ratio(2, 3))]
    areas = sample_maps(lengths=LENGTHS[:2])[::3]
    return [Gauge(area, *both, kind) for area, both, kind in itertools.product(areas, reaches, ("box", "sum"))]


def odd_table(plan, many=5, salt=1, begins=(3, 0, 1, 0)):
    return Table(plan, odd_states(plan, many, salt), begins)
