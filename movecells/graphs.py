"""Targets of a rule, and the states in which what is missed is looked for."""

from movecells.checks import is_count_below, is_tuple_of
from movecells.errors import InvalidSign, InvalidState, InvalidTarget
from movecells.plans import AXES
from movecells.readers import Reader, are_all_stopped, beside, is_end, phase_before
from movecells.rules import STAY, check_rule, lists_at
from movecells.steps import MOVES, is_move
from movecells.walks import MOST_STATES, come_to


class TargetGraph:
    """The states of a target; bad ends are the goals."""

    def __init__(self, rule, target, reader):
        self._rule = rule
        self._plan = rule.table.plan
        self._target = target
        self._reader = reader
        self._beside = {}

    def first(self):
        """The start."""
        phase, shift, moves = self._target
        return (phase_before(self._plan, phase),) + shift + (self._reader.all_alive(moves),)

    def signs(self, state):
        """How many signs the round has that is read next."""
        return self._plan.signs(state[0])

    def behind(self, state, sign):
        """The state to which a state leads with a sign."""
        phase, east, north, alive = state
        goal, carried = self._beside_of(phase, sign, (east, north))
        return (phase_before(self._plan, phase),) + carried + (self._reader.still_alive(phase, sign, alive, goal),)

    def is_goal(self, state):
        """Whether a state is an end and bad."""
        phase, east, north, alive = state
        if not is_end(self._plan, phase):
            return False
        area = self._rule.gauge.area
        # What is carried beyond an open axis tells that there is no neighbour.
        if not all([many == 0 or area.is_closed(axis) for axis, many in zip(AXES, (east, north))]):
            return False
        return are_all_stopped(self._rule.edges, alive)

    def _beside_of(self, phase, sign, shift):
        """The neighbour's sign and what it carries on, kept for all further states."""
        key = (phase, sign, shift)
        if key not in self._beside:
            self._beside[key] = beside(self._plan, phase, sign, shift)
        return self._beside[key]


def targets(rule):
    """The sorted list of what must not be missed: a phase, a move to a cell that is reached, a list."""
    check_rule(rule)
    found = []
    for phase in rule.gauge.taken():
        lists = lists_at(rule, phase)
        for moves in lists:
            shifts = [shift for shift in MOVES if shift != STAY and _is_reached(rule, phase, lists[moves], shift)]
            found = found + [(phase, shift, moves) for shift in shifts]
    return sorted(found)


def is_target(rule, value):
    """Whether any value is a target of the rule."""
    check_rule(rule)
    if not is_tuple_of(value, 3):
        return False
    phase, shift, moves = value
    if not is_count_below(phase, len(rule.table.plan)) or phase not in rule.gauge.taken():
        return False
    if not is_move(shift) or shift == STAY or not isinstance(moves, tuple):
        return False
    if not all([is_move(move) for move in moves]):
        return False
    signs = [sign for sign in range(rule.table.plan.signs(phase)) if rule.moves(phase, sign) == list(moves)]
    return _is_reached(rule, phase, signs, shift)


def start(rule, target):
    """The state in which reading begins."""
    return _graph(rule, target).first()


def is_state(rule, target, value):
    """Whether any value has the form of a state of the target."""
    _check_target(rule, target)
    return has_form(rule, target, value)


def following(rule, target, state, sign):
    """The state to which a state leads with a sign."""
    graph = _graph(rule, target)
    _check_state(rule, target, state)
    plain = plain_state(target, state)
    if not is_count_below(sign, graph.signs(plain)):
        raise InvalidSign(sign)
    return graph.behind(plain, sign)


def is_bad(rule, target, state):
    """Whether a state is an end and bad."""
    graph = _graph(rule, target)
    _check_state(rule, target, state)
    return graph.is_goal(state)


def states(rule, target):
    """All states that are come to from the start, in the sequence in which they are come to."""
    return list(come_to(_graph(rule, target), MOST_STATES))


def has_form(rule, target, value):
    """Whether any value has the form of a state of what is known to be a target."""
    if not is_tuple_of(value, 4):
        return False
    phase, east, north, alive = value
    if not is_count_below(phase, len(rule.table.plan)) or not is_move((east, north)):
        return False
    if not isinstance(alive, tuple) or not all([_is_stand(rule.table, one) for one in alive]):
        return False
    # Just moves of the list, sorted, each once.
    return [move for move, _ in alive] == _moves_of(target, alive)


def plain_state(target, state):
    """A copy of a state that holds plain tuples and integers only."""
    phase, east, north, alive = state
    stands = [tuple([None if one is None else int(one) for one in behind]) for _, behind in alive]
    return int(phase), int(east), int(north), tuple(zip(_moves_of(target, alive), stands))


def _moves_of(target, alive):
    """The moves of the target's list that are alive, sorted."""
    there = [move for move, _ in alive]
    return [move for move in target[2] if move in there]


def _is_stand(table, value):
    """Whether a value is a tuple of a move and its stands."""
    if not is_tuple_of(value, 2):
        return False
    move, stands = value
    if not is_move(move):
        return False
    if not is_tuple_of(stands, len([many for many in move if many != 0])):
        return False
    return all([state is None or is_count_below(state, len(table)) for state in stands])


def _is_reached(rule, phase, signs, shift):
    """Whether a move is reached with one of these next signs."""
    return any([shift in rule.gauge.reached(phase, sign) for sign in signs])


def _graph(rule, target):
    """The graph of a target of a rule."""
    _check_target(rule, target)
    phase, shift, moves = target
    plain = (int(phase), MOVES[MOVES.index(shift)], tuple([move for move in MOVES if move in moves]))
    return TargetGraph(rule, plain, Reader(rule.table))


def _check_target(rule, target):
    """Raise the error of a value that is no rule, or is none of its targets."""
    if not is_target(rule, target):
        raise InvalidTarget(target)


def _check_state(rule, target, state):
    """Raise the error of a value that has not the form of a state."""
    if not has_form(rule, target, state):
        raise InvalidState(state)
