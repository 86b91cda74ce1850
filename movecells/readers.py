"""Reading names sign by sign, from the last one on: what is made of each sign, and what is carried on."""

from movecells.plans import AXES
from movecells.steps import direction_of


class Reader:
    """Follows the steps of moves by a table, and keeps what they make."""

    def __init__(self, table):
        self._table = table
        self._made = {}

    def first_stands(self, move):
        """The states in which the directions of the steps of a move begin."""
        directions = [direction_of(axis, many) for axis, many in zip(AXES, move) if many != 0]
        return tuple([self._table.begin(direction) for direction in directions])

    def all_alive(self, moves):
        """The moves with their first stands."""
        return tuple([(move, self.first_stands(move)) for move in moves])

    def made(self, phase, sign, stands):
        """The sign that the steps make, one behind another, and where they stand behind it."""
        key = (phase, sign, stands)
        if key not in self._made:
            self._made[key] = _made_of(self._table, phase, sign, stands)
        return self._made[key]

    def still_alive(self, phase, sign, alive, goal):
        """Those moves that make the goal of the sign, with their new stands."""
        found = []
        for move, stands in alive:
            sign_made, behind = self.made(phase, sign, stands)
            if sign_made == goal:
                found.append((move, behind))
        return tuple(found)


def phase_before(plan, phase):
    """The round whose sign stands before that of a round."""
    return (phase - 1) % len(plan)


def is_end(plan, phase):
    """Whether a name can be read to its beginning if the sign of this round were next."""
    return phase == len(plan) - 1


def is_stopped(edges, move, stands):
    """Whether a step of a move that is not done comes to an edge with the word "stop"."""
    words = [word for word, many in zip(edges, move) if many != 0]
    return "stop" in [word for word, state in zip(words, stands) if state is not None]


def are_all_stopped(edges, alive):
    """Whether each of the moves is stopped at the edge, so also if there is none."""
    return all([is_stopped(edges, move, stands) for move, stands in alive])


def beside(plan, phase, sign, shift):
    """The sign of the neighbour in the place of a sign, and what the neighbour carries on to both axes."""
    columns, rows = plan.parts(phase)
    column, row = plan.place_of(phase, sign)
    x = column + shift[0]
    y = row + shift[1]
    # One part beyond the parts of the round is carried on, 1 or -1.
    return plan.sign_at(phase, (x % columns, y % rows)), (x // columns, y // rows)


def _made_of(table, phase, sign, stands):
    """What the steps make of a sign, each one of what the one before has made."""
    made = sign
    behind = []
    for state in stands:
        next_state = None
        if state is not None:
            made, next_state = table[state, phase, made]
        behind.append(next_state)
    return made, tuple(behind)
