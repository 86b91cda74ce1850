"""What rules ask for without need, and how far off what they tell can be."""

from movecells.alike import tables_alike
from movecells.gaps import joined
from movecells.gauges import check_gauge, first_fineness, greatest_at
from movecells.maps import sides_at
from movecells.plans import AXES
from movecells.ratios import greater
from movecells.rules import Rule, check_rule, lists_at, right_edges
from movecells.steps import MOVES
from movecells.tables import Table


def needed(gauge, phase, sign):
    """The sorted moves to cells in which a place can be near, with this next sign."""
    check_gauge(gauge)
    return gauge.reached(phase, sign)


def spare(rule, phase, sign):
    """The sorted moves of the list that lead to no cell in which a place can be near."""
    check_rule(rule)
    moves = rule.moves(phase, sign)
    reached = rule.gauge.reached(phase, sign)
    return [move for move in moves if move not in reached]


def idle(rule):
    """The sorted phases and moves that stand in lists, and are always spare there."""
    check_rule(rule)
    found = []
    for phase in rule.gauge.taken():
        lists = lists_at(rule, phase)
        for move in MOVES:
            signs = [sign for moves in lists if move in moves for sign in lists[moves]]
            if len(signs) > 0 and all([move not in rule.gauge.reached(phase, sign) for sign in signs]):
                found.append((phase, move))
    return found


def is_straight(rule):
    """Whether the rule makes just the neighbours, the same ones for all next signs."""
    check_rule(rule)
    if len(rule.looks()) > 0 or rule.edges != right_edges(rule.gauge.area):
        return False
    return tables_alike(rule.table, Table.right(rule.table.plan))


def far_bound(rule):
    """How many times the distance each place in an asked cell is at most away; None unless the rule is straight."""
    if not is_straight(rule):
        return None
    gauge = rule.gauge
    bound = _widest(gauge).over(greatest_at(gauge, 1))
    for phase in gauge.taken():
        f = first_fineness(gauge, phase)
        for move in rule.base_moves():
            far = [side * (abs(many) + 1) for side, many in zip(sides_at(gauge.area, f), move)]
            bound = greater(bound, joined(gauge.kind, far).over(greatest_at(gauge, f + 1)))
    return bound


def most_in_vain(rule):
    """The most cells that are asked in vain; None unless the rule is straight and of the kind "box"."""
    if not is_straight(rule) or rule.gauge.kind != "box":
        return None
    return max([_in_vain_at(rule, phase) for phase in rule.gauge.taken()])


def least_lists(gauge):
    """The rule that looks for each next sign just at the cells in which a place can be near."""
    whole = Rule.whole(gauge)
    looks = {}
    for phase in gauge.taken():
        for sign in range(whole.table.plan.signs(phase)):
            looks[(phase, sign)] = gauge.reached(phase, sign)
    return Rule(gauge, whole.table, MOVES, edges=whole.edges, looks=looks)


def _widest(gauge):
    """The least number that no distance of two places on the map is above."""
    area = gauge.area
    lengths = [area.length(axis).over(2) if area.is_closed(axis) else area.length(axis) for axis in AXES]
    return joined(gauge.kind, lengths)


def _in_vain_at(rule, phase):
    """The most cells that are asked in vain at the finenesses of a phase."""
    gauge = rule.gauge
    f = first_fineness(gauge, phase)
    doubled = greatest_at(gauge, f + 1) * 2
    east, north = [_choices(doubled, side) for side in sides_at(gauge.area, f)]
    moves = rule.base_moves()
    counts = [
        len([(i, j) for i, j in moves if i not in columns or j not in rows])
        for columns in east
        for rows in north
    ]
    return max(counts)


def _choices(doubled, side):
    """The moves along an axis that can be all that are needed, by where in its cell a place lies."""
    if doubled.is_below(side):
        return [(0,)]
    return [(0, 1), (0, -1)]
