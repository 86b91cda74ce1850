"""Graphs that read one name in two ways at once: by two moves, by two tables, by a move and a list of moves."""

from movecells.readers import are_all_stopped, is_end, is_stopped, phase_before


class MovesGraph:
    """Two moves of one rule, as long as they make the same signs; where both make a name is a goal."""

    def __init__(self, rule, reader, phase, moves):
        self._edges = rule.edges
        self._plan = rule.table.plan
        self._reader = reader
        self._phase = phase
        self._moves = moves

    def first(self):
        """Both moves with their first stands."""
        return phase_before(self._plan, self._phase), self._reader.all_alive(self._moves)

    def signs(self, state):
        """How many signs the round has that is read next."""
        return self._plan.signs(state[0])

    def behind(self, state, sign):
        """Both moves behind a sign, or None if they make unlike signs of it."""
        phase, alive = state
        goal, _ = self._reader.made(phase, sign, alive[0][1])
        left = self._reader.still_alive(phase, sign, alive, goal)
        if len(left) < len(alive):
            return None
        return phase_before(self._plan, phase), left

    def is_goal(self, state):
        """Whether the name can end here, and both moves make one."""
        phase, alive = state
        if not is_end(self._plan, phase):
            return False
        return not any([is_stopped(self._edges, move, stands) for move, stands in alive])


class StepsGraph:
    """Two steps, each by a table and from a state; where they have told unlike things is a goal."""

    def __init__(self, plan, readers, phase, states):
        self._plan = plan
        self._readers = readers
        self._phase = phase
        self._states = states

    def first(self):
        """The round of the last sign, both states, and whether unlike signs have been made."""
        one, other = self._states
        return self._phase, (one,), (other,), False

    def signs(self, state):
        """How many signs the round has that is read next."""
        return self._plan.signs(state[0])

    def behind(self, state, sign):
        """Both steps behind a sign."""
        phase, one, other, is_parted = state
        before = phase_before(self._plan, phase)
        sign_of_one, one_behind = self._readers[0].made(phase, sign, one)
        sign_of_other, other_behind = self._readers[1].made(phase, sign, other)
        if is_parted or sign_of_one != sign_of_other:
            # What is made from here on makes nothing equal again.
            return before, (None,), (None,), True
        return before, one_behind, other_behind, False

    def is_goal(self, state):
        """Whether the name can end here, and the steps tell unlike names, or only one has come to the edge."""
        phase, one, other, is_parted = state
        if not is_end(self._plan, phase):
            return False
        return is_parted or (one == (None,)) != (other == (None,))


class ComparisonGraph:
    """A move of one rule, and a list of another one; where only the move makes its name is a goal."""

    def __init__(self, rules, readers, comparison):
        self._rules = rules
        self._plan = rules[0].table.plan
        self._readers = readers
        self._comparison = comparison

    def first(self):
        """The first stands of the move and of all moves of the list."""
        phase, move, moves = self._comparison
        alive = self._readers[1].all_alive(moves)
        return phase_before(self._plan, phase), self._readers[0].first_stands(move), alive

    def signs(self, state):
        """How many signs the round has that is read next."""
        return self._plan.signs(state[0])

    def behind(self, state, sign):
        """The state behind a sign."""
        phase, stands, alive = state
        goal, left = self._readers[0].made(phase, sign, stands)
        return phase_before(self._plan, phase), left, self._readers[1].still_alive(phase, sign, alive, goal)

    def is_goal(self, state):
        """Whether the name can end here, and the move makes one that no move of the list makes."""
        phase, stands, alive = state
        if not is_end(self._plan, phase) or is_stopped(self._rules[0].edges, self._comparison[1], stands):
            return False
        return are_all_stopped(self._rules[1].edges, alive)
