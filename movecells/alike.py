"""What is asked twice, and which tables, states of tables and rules are alike."""

from movecells.checks import MOST_FINENESS, check_fineness, is_count_below, is_int, is_tuple_of
from movecells.errors import InvalidNumber, InvalidState, OtherMap, OtherPlan, TooMany
from movecells.gauges import greatest_at
from movecells.names import is_name
from movecells.pairs import ComparisonGraph, MovesGraph, StepsGraph
from movecells.places import is_place
from movecells.ratios import Ratio, greater, is_above_0
from movecells.readers import Reader
from movecells.rules import check_rule, lists_at
from movecells.steps import stepped
from movecells.tables import DIRECTIONS, Table, check_table, is_direction
from movecells.walks import MOST_STATES, come_to, longest_walk, name_within, shortest_name
from movecells.witnesses import place_with

# The greatest fineness from which on something asked twice is looked for.
MOST_FROM = 500


def asks_twice(rule, f):
    """Whether the rule asks some cell twice at a fineness."""
    check_rule(rule)
    check_fineness(f)
    if f == 0:
        raise InvalidNumber(f)
    phase = f % len(rule.table.plan)
    graphs = [graph for graph, key in _moves_graphs(rule) if key[0] == phase]
    return any([name_within(graph, f, f) is not None for graph in graphs])


def once_from(rule):
    """The least fineness from which on no cell is asked twice, or None."""
    check_rule(rule)
    lengths = [longest_walk(graph) for graph, _ in _moves_graphs(rule)]
    if None in lengths:
        return None
    return max(lengths, default=0) + 1


def twice(rule, f):
    """A place and a distance of the least fineness from f on for which a name is asked twice, or None."""
    check_rule(rule)
    if not is_from(f):
        raise InvalidNumber(f)
    if not is_twice_from(rule, f):
        return None
    found = None
    most = MOST_FINENESS
    for graph, key in _moves_graphs(rule):
        name = name_within(graph, f, most)
        if name is not None:
            found = (name, _sign_with(rule, key))
            most = len(name) - 1
    if found is None:
        raise TooMany("signs", MOST_FINENESS)
    return _asked_with(rule, found)


def tables_alike(table, other):
    """Whether all steps tell the same by two tables."""
    check_table(table)
    check_table(other)
    if table.plan != other.plan:
        raise OtherPlan(table.plan, other.plan)
    return _shortest_fault(table, other) is None


def fault(table):
    """A direction and a shortest name at which the table is not right, or None."""
    check_table(table)
    return _shortest_fault(table, Table.right(table.plan))


def states_alike(table, one, other):
    """Whether steps that begin in two states tell the same."""
    check_table(table)
    for state in (one, other):
        if not is_count_below(state, len(table)):
            raise InvalidState(state)
    reader = Reader(table)
    return _shortest_unlike(table.plan, (reader, reader), (one, other)) is None


def least_states(table):
    """How many unlike states there are among those that steps can stand in."""
    check_table(table)
    kinds = []
    for state in _states_told(table):
        if not any([states_alike(table, state, kind) for kind in kinds]):
            kinds.append(state)
    return len(kinds)


def rules_alike(rule, other):
    """Whether two rules ask the same cells for all places and distances."""
    return parting(rule, other) is None


def parting(rule, other):
    """A place and a distance at which two rules ask unlike sets of cells, or None."""
    check_rules(rule, other)
    for f in range(1, len(rule.table.plan) + 1):
        one = greatest_at(rule.gauge, f)
        two = greatest_at(other.gauge, f)
        if one != two:
            return (Ratio(0), Ratio(0)), greater(one, two)
    found = _partings((rule, other)) + _partings((other, rule))
    if len(found) == 0:
        return None
    return _asked_with(rule, min(found, key=lambda row: len(row[0])))


def is_parting(rule, other, value):
    """Whether any value is a place and a distance at which two rules ask unlike sets of cells."""
    check_rules(rule, other)
    if not _is_asked(rule, value):
        return False
    place, d = value
    try:
        return set(rule(place, d)) != set(other(place, d))
    except TooMany:
        return False


def check_rules(rule, other):
    """Raise the first error of two rules that can be compared."""
    check_rule(rule)
    check_rule(other)
    if rule.gauge.area != other.gauge.area:
        raise OtherMap(rule.gauge.area, other.gauge.area)


def is_from(value):
    """Whether a value is a fineness from which on something asked twice can be looked for."""
    return is_int(value) and 1 <= value <= MOST_FROM


def is_twice_from(rule, f):
    """Whether the rule asks some cell twice at some fineness from f on."""
    least = once_from(rule)
    return least is None or f < least


def is_twice_paper(rule, f, value):
    """Whether any value is a place and a distance of at least f signs for which a name is asked twice."""
    if not _is_asked(rule, value):
        return False
    place, d = value
    try:
        asked = rule(place, d)
    except TooMany:
        return False
    return len(asked[0]) >= f and len(set(asked)) < len(asked)


def is_fault(table, value):
    """Whether any value is a direction and a name at which the table is not right."""
    if not is_tuple_of(value, 2):
        return False
    direction, name = value
    if not is_direction(direction) or not is_name(table.plan, name):
        return False
    return stepped(table, name, direction) != stepped(Table.right(table.plan), name, direction)


def _is_asked(rule, value):
    """Whether a value is a tuple of a place and a distance."""
    if not is_tuple_of(value, 2):
        return False
    place, d = value
    return is_place(rule.gauge.area, place) and is_above_0(d)


def _asked_with(rule, shown):
    """A place with a name and a next sign, and the greatest distance for the name."""
    name, sign = shown
    return place_with(rule.gauge.area, name, sign), greatest_at(rule.gauge, len(name))


def _moves_graphs(rule):
    """The graphs of all two moves of one list, each with its phase and the two moves."""
    reader = Reader(rule.table)
    keys = {}
    for phase in rule.gauge.taken():
        for moves in lists_at(rule, phase):
            for pair in [(one, two) for one in moves for two in moves if one < two]:
                keys[(phase, pair)] = True
    return [(MovesGraph(rule, reader, phase, pair), (phase, pair)) for phase, pair in keys]


def _sign_with(rule, key):
    """A next sign of a phase whose list has two moves."""
    phase, pair = key
    lists = lists_at(rule, phase)
    signs = [lists[moves][0] for moves in lists if pair[0] in moves and pair[1] in moves]
    return signs[0]


def _shortest_fault(table, other):
    """A direction and a shortest name at which steps by two tables of one plan tell unlike things, or None."""
    readers = (Reader(table), Reader(other))
    found = []
    for direction in DIRECTIONS:
        begins = (table.begin(direction), other.begin(direction))
        name = _shortest_unlike(table.plan, readers, begins)
        if name is not None:
            found.append((direction, name))
    return min(found, key=lambda row: len(row[1]), default=None)


def _shortest_unlike(plan, readers, begins):
    """A shortest name from which two steps that begin in two states tell unlike things, or None."""
    graphs = [StepsGraph(plan, readers, phase, begins) for phase in range(len(plan))]
    found = [shortest_name(graph, come_to(graph)) for graph in graphs]
    return min([name for name in found if name is not None], key=len, default=None)


def _states_told(table):
    """The states in which directions begin, those that their entries tell, and so on."""
    rows = sorted(set(table.begins()))
    at = 0
    while at < len(rows):
        for phase in range(len(table.plan)):
            for sign in range(table.plan.signs(phase)):
                _, state = table[rows[at], phase, sign]
                if state is not None and state not in rows:
                    rows.append(state)
        at = at + 1
    return rows


def _partings(rules):
    """Names that a move of the first rule makes, and no move of the second one, each with a next sign."""
    readers = [Reader(rule.table) for rule in rules]
    signs = _comparisons(rules)
    found = []
    for comparison in signs:
        graph = ComparisonGraph(rules, readers, comparison)
        name = shortest_name(graph, come_to(graph, MOST_STATES))
        if name is not None:
            found.append((name, signs[comparison]))
    return found


def _comparisons(rules):
    """The comparisons of moves of the first rule with lists of the second one, each with a next sign."""
    rule, other = rules
    signs = {}
    for phase in rule.gauge.taken():
        for sign in range(rule.table.plan.signs(phase)):
            moves = tuple(other.moves(phase, sign))
            for move in rule.moves(phase, sign):
                signs.setdefault((phase, move, moves), sign)
    return signs
