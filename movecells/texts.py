"""Texts of plans, maps, tables and rules, told and read."""

from movecells.errors import InvalidBegins, InvalidReach, InvalidRounds, InvalidStates, InvalidText, NotBalanced
from movecells.gaps import is_kind
from movecells.gauges import Gauge
from movecells.lines import Lines, cut_word, cuts_of, entries_of, entry_word, moves_of, moves_words, states_of
from movecells.maps import Map, check_area
from movecells.plans import AXES, Plan, check_plan
from movecells.ratios import is_above_0, number_of
from movecells.rules import Rule, check_rule
from movecells.steps import are_edges
from movecells.tables import DIRECTIONS, Table, check_table

OPEN = "open"
CLOSED = "closed"


def plan_text(plan):
    """A line for each round."""
    check_plan(plan)
    lines = [" ".join([cut_word(cut) for cut in cuts]) for cuts in plan.rounds()]
    return _joined(lines)


def map_text(area):
    """The text of the plan, and a line for each axis."""
    check_area(area)
    lines = [f"{axis} {area.length(axis)} {_closed_word(area, axis)}" for axis in AXES]
    return plan_text(area.plan) + _joined(lines)


def table_text(table):
    """A line with the begins, and a line for each round of each state."""
    check_table(table)
    lines = [" ".join(["begins"] + [str(state) for state in table.begins()])]
    for state in range(len(table)):
        for phase in range(len(table.plan)):
            entries = [table[state, phase, sign] for sign in range(table.plan.signs(phase))]
            lines.append(" ".join(["entries"] + [entry_word(entry) for entry in entries]))
    return _joined(lines)


def rule_text(rule):
    """The texts of the map and of the table, and lines for the gauge, the edges, the moves and each look."""
    check_rule(rule)
    gauge = rule.gauge
    lines = [
        f"gauge {gauge.kind} {gauge.reaches[0]} {gauge.reaches[1]}",
        f"edges {rule.edges[0]} {rule.edges[1]}",
        f"moves {moves_words(rule.base_moves())}",
    ]
    looks = rule.looks()
    for phase, sign in looks:
        lines.append(f"look {phase} {sign} {moves_words(looks[(phase, sign)])}")
    return map_text(gauge.area) + table_text(rule.table) + _joined(lines)


def read_plan(text):
    """The plan whose text this is."""
    lines = Lines(text)
    plan = _plan_in(lines)
    lines.check_end()
    return plan


def read_map(text):
    """The map whose text this is."""
    lines = Lines(text)
    area = _map_in(lines)
    lines.check_end()
    return area


def read_table(plan, text):
    """The table for the plan whose text this is."""
    check_plan(plan)
    lines = Lines(text)
    table = _table_in(lines, plan)
    lines.check_end()
    return table


def read_rule(text):
    """The rule whose text this is."""
    lines = Lines(text)
    area = _map_in(lines)
    table = _table_in(lines, area.plan)
    gauge = _gauge_in(lines, area)
    edges = _edges_in(lines)
    moves = _moves_in(lines)
    looks = _looks_in(lines, area.plan)
    lines.check_end()
    return Rule(gauge, table, moves, edges=edges, looks=looks)


def _joined(lines):
    """The lines, each one with a line feed behind it."""
    return "".join([line + "\n" for line in lines])


def _closed_word(area, axis):
    """The word that tells whether an axis is closed."""
    if area.is_closed(axis):
        return CLOSED
    return OPEN


def _plan_in(lines):
    """The plan that the next lines tell."""
    rounds = []
    cuts = cuts_of(lines.words())
    while cuts is not None and len(rounds) < Plan.MOST_ROUNDS:
        rounds.append(cuts)
        lines.go_on()
        cuts = cuts_of(lines.words())
    try:
        return Plan(*rounds)
    except (InvalidRounds, NotBalanced):
        raise InvalidText(lines.number())


def _map_in(lines):
    """The map that the next lines tell."""
    plan = _plan_in(lines)
    lengths = []
    closed = []
    for axis in AXES:
        word, length, state = _words_of(lines, 3)
        number = number_of(length)
        if word != axis or not is_above_0(number) or state not in (OPEN, CLOSED):
            raise InvalidText(lines.number())
        lengths.append(number)
        if state == CLOSED:
            closed.append(axis)
        lines.go_on()
    return Map(plan, lengths[0], lengths[1], closed=closed)


def _table_in(lines, plan):
    """The table that the next lines tell."""
    words = lines.words()
    begins = states_of(words[1:], len(DIRECTIONS))
    if words[:1] != ["begins"] or begins is None:
        raise InvalidText(lines.number())
    lines.go_on()
    rows = _rows_in(lines, plan)
    try:
        return Table(plan, [rows[at:at + len(plan)] for at in range(0, len(rows), len(plan))], begins)
    except (InvalidStates, InvalidBegins):
        # The last state is not whole, or a state that is told does not come.
        raise InvalidText(lines.number())


def _rows_in(lines, plan):
    """The entries for all rounds of all states that the next lines tell."""
    rows = []
    words = lines.words()
    while words[:1] == ["entries"] and len(rows) < Table.MOST_STATES * len(plan):
        entries = entries_of(words[1:], plan.signs(len(rows) % len(plan)))
        if entries is None:
            raise InvalidText(lines.number())
        rows.append(entries)
        lines.go_on()
        words = lines.words()
    return rows


def _gauge_in(lines, area):
    """The gauge that the next line tells."""
    word, kind, east, north = _words_of(lines, 4)
    reaches = [number_of(east), number_of(north)]
    if word != "gauge" or not is_kind(kind):
        raise InvalidText(lines.number())
    try:
        gauge = Gauge(area, reaches[0], reaches[1], kind)
    except InvalidReach:
        raise InvalidText(lines.number())
    lines.go_on()
    return gauge


def _edges_in(lines):
    """The edges that the next line tells."""
    word, east, north = _words_of(lines, 3)
    if word != "edges" or not are_edges((east, north)):
        raise InvalidText(lines.number())
    lines.go_on()
    return east, north


def _moves_in(lines):
    """The moves that the next line tells."""
    words = lines.words()
    moves = moves_of(words[1:])
    if words[:1] != ["moves"] or moves is None:
        raise InvalidText(lines.number())
    lines.go_on()
    return moves


def _looks_in(lines, plan):
    """The looks that the next lines tell, as long as they are right and rise."""
    keys = {(str(phase), str(sign)): (phase, sign) for phase in range(len(plan)) for sign in range(plan.signs(phase))}
    looks = {}
    last = (-1, -1)
    words = lines.words()
    while words[:1] == ["look"]:
        key = keys.get(tuple(words[1:3]), last)
        moves = moves_of(words[3:])
        if key <= last or moves is None:
            raise InvalidText(lines.number())
        looks[key] = moves
        last = key
        lines.go_on()
        words = lines.words()
    return looks


def _words_of(lines, many):
    """Just so many words of the next line."""
    words = lines.words()
    if len(words) != many:
        raise InvalidText(lines.number())
    return words
