"""Whether a rule misses a place, and what shows it."""

from movecells.checks import is_list, is_tuple_of
from movecells.errors import TooMany
from movecells.graphs import TargetGraph, has_form, is_target, plain_state, targets
from movecells.places import is_place
from movecells.ratios import is_above_0
from movecells.readers import Reader
from movecells.rules import check_rule, lists_at
from movecells.walks import MOST_STATES, come_to, shortest_name
from movecells.witnesses import near_places


def misses_nothing(rule):
    """Whether the rule misses no place, for all places and distances."""
    return len(_shown(rule)) == 0


def closed_lists(rule):
    """A closed list for each target, or None if the rule misses something."""
    graphs = _graphs(rule)
    found = _all_states(graphs)
    if len(_names_of(graphs, found)) > 0:
        return None
    return {target: list(found[target]) for target in found}


def missing(rule):
    """A place, one that is missed for it, and the distance, at the least fineness; None if nothing is missed."""
    shown = _shown(rule)
    if len(shown) == 0:
        return None
    phase, shift, moves = min(list(shown), key=lambda target: len(shown[target]))
    name = shown[(phase, shift, moves)]
    signs = [sign for sign in lists_at(rule, phase)[moves] if shift in rule.gauge.reached(phase, sign)]
    return near_places(rule.gauge, name, signs[0], shift)


def fewest_signs(rule):
    """The least length of a miss, or None."""
    shown = _shown(rule)
    return min([len(shown[target]) for target in shown], default=None)


def is_closed_paper(rule, value):
    """Whether any value is a dict from just the targets to closed lists."""
    graphs = _graphs(rule)
    # Only to tell that there are too many: what is passed need not hold all states that are come to.
    _all_states(graphs)
    if not isinstance(value, dict) or len(value) != len(graphs):
        return False
    # A key with True in the place of 1 is found among the targets, but is none.
    if not all([is_target(rule, target) for target in value]):
        return False
    return all([_is_closed_list(rule, graphs[target], target, value[target]) for target in value])


def is_miss(rule, value):
    """Whether any value is a miss."""
    check_rule(rule)
    if not is_tuple_of(value, 3):
        return False
    place, other, d = value
    area = rule.gauge.area
    if not (is_place(area, place) and is_place(area, other) and is_above_0(d)):
        return False
    try:
        return rule.misses(place, other, d)
    except TooMany:
        return False


def missing_by(rule):
    """The sorted list of the targets by which something is missed."""
    return list(_shown(rule))


def _graphs(rule):
    """The graphs of all targets, by the sorted targets."""
    all_targets = targets(rule)
    reader = Reader(rule.table)
    return {target: TargetGraph(rule, target, reader) for target in all_targets}


def _all_states(graphs):
    """What is come to in each of the graphs."""
    return {target: come_to(graphs[target], MOST_STATES) for target in graphs}


def _names_of(graphs, found):
    """The shortest names that lead to a bad end, for the targets that have one."""
    shown = {target: shortest_name(graphs[target], found[target]) for target in graphs}
    return {target: shown[target] for target in shown if shown[target] is not None}


def _shown(rule):
    """The shortest names that show what the rule misses, by the sorted targets."""
    graphs = _graphs(rule)
    return _names_of(graphs, _all_states(graphs))


def _is_closed_list(rule, graph, target, value):
    """Whether a value is a list of states with the start and all that they lead to, and without a bad end."""
    if not is_list(value) or not all([has_form(rule, target, state) for state in value]):
        return False
    there = {plain_state(target, state): True for state in value}
    if graph.first() not in there:
        return False
    return all([_is_closed_at(graph, state, there) for state in there])


def _is_closed_at(graph, state, there):
    """Whether a state is no bad end, and all states to which it leads are there."""
    if graph.is_goal(state):
        return False
    return all([graph.behind(state, sign) in there for sign in range(graph.signs(state))])
