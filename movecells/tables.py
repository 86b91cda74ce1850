"""Tables: which sign comes for a sign in a step, and what is carried on."""

from movecells.checks import is_count_below, is_list, is_tuple_of
from movecells.errors import InvalidBegins, InvalidDirection, InvalidEntry, InvalidState, InvalidStates, InvalidTable
from movecells.plans import check_plan, check_sign

DIRECTIONS = ("east", "west", "north", "south")
# What each direction adds to the column and to the row of a cell.
SHIFTS = ((1, 0), (-1, 0), (0, 1), (0, -1))


class Table:
    """States with an entry for each sign of each round."""

    MOST_STATES = 8

    def __init__(self, plan, states, begins=(0, 1, 2, 3)):
        check_plan(plan)
        _check_states(plan, states)
        if not is_tuple_of(begins, len(DIRECTIONS)):
            raise InvalidBegins(begins)
        if not all([is_count_below(state, len(states)) for state in begins]):
            raise InvalidBegins(begins)
        self._plan = plan
        self._states = [_plain_state(state) for state in states]
        self._begins = tuple([int(state) for state in begins])

    @classmethod
    def right(cls, plan):
        """The table whose steps lead to the neighbours."""
        check_plan(plan)
        return cls(plan, [_right_state(plan, state) for state in range(len(DIRECTIONS))])

    @property
    def plan(self):
        """The plan."""
        return self._plan

    def __len__(self):
        return len(self._states)

    def begins(self):
        """The states in which the directions begin."""
        return self._begins

    def begin(self, direction):
        """The state in which a direction begins."""
        check_direction(direction)
        return self._begins[DIRECTIONS.index(direction)]

    def __getitem__(self, at):
        if not is_tuple_of(at, 3):
            raise InvalidState(at)
        state, phase, sign = at
        self._check_index(state, phase, sign)
        return self._states[state][phase][sign]

    def __iter__(self):
        raise TypeError("a table is not iterated over")

    def with_entry(self, state, phase, sign, entry):
        """The table with another entry."""
        self._check_index(state, phase, sign)
        if not _is_entry(entry, self._plan.signs(phase), len(self._states)):
            raise InvalidEntry(entry)
        states = [[list(entries) for entries in rounds] for rounds in self._states]
        states[state][phase][sign] = entry
        return Table(self._plan, states, self._begins)

    def unlike(self, other):
        """Where two tables of one form have unlike entries."""
        check_table(other)
        if self._plan != other._plan or self._begins != other._begins or len(self._states) != len(other._states):
            raise InvalidTable(other)
        places = [
            (state, phase, sign)
            for state in range(len(self._states))
            for phase in range(len(self._plan))
            for sign in range(self._plan.signs(phase))
        ]
        return [place for place in places if self[place] != other[place]]

    def __eq__(self, other):
        if not isinstance(other, Table) or self._plan != other._plan:
            return False
        return self._states == other._states and self._begins == other._begins

    def __repr__(self):
        return f"Table({repr(self._plan)}, {repr(self._states)}, {repr(self._begins)})"

    def _check_index(self, state, phase, sign):
        """Raise the first error of what tells an entry."""
        if not is_count_below(state, len(self._states)):
            raise InvalidState(state)
        check_sign(self._plan, phase, sign)


def check_table(table):
    """Raise the error of a value that is no table."""
    if not isinstance(table, Table):
        raise InvalidTable(table)


def check_direction(direction):
    """Raise the error of a value that is no direction."""
    if not is_direction(direction):
        raise InvalidDirection(direction)


def is_direction(value):
    """Whether a value is one of the four directions."""
    return isinstance(value, str) and value in DIRECTIONS


def _check_states(plan, states):
    """Raise the first error of the states of a table."""
    if not is_list(states) or not 1 <= len(states) <= Table.MOST_STATES:
        raise InvalidStates(None)
    for position, state in enumerate(states):
        if not _is_state(plan, state, len(states)):
            raise InvalidStates(position)


def _is_state(plan, value, many):
    """Whether a value is a state of a table with so many states."""
    if not is_list(value) or len(value) != len(plan):
        return False
    return all([_are_entries(entries, plan.signs(phase), many) for phase, entries in enumerate(value)])


def _are_entries(value, signs, many):
    """Whether a value is a list of entries, one for each sign."""
    if not is_list(value) or len(value) != signs:
        return False
    return all([_is_entry(entry, signs, many) for entry in value])


def _is_entry(value, signs, many):
    """Whether a value is an entry of a round with so many signs."""
    if not is_tuple_of(value, 2):
        return False
    sign, state = value
    return is_count_below(sign, signs) and (state is None or is_count_below(state, many))


def _plain_state(rounds):
    """A copy of a state: lists of plain tuples."""
    return [[_plain_entry(entry) for entry in entries] for entries in rounds]


def _plain_entry(entry):
    """A copy of an entry that is a plain tuple."""
    sign, state = entry
    if state is None:
        return int(sign), None
    return int(sign), int(state)


def _right_state(plan, state):
    """The state of the right table in which the direction with this position begins."""
    return [
        [_right_entry(plan, state, phase, sign) for sign in range(plan.signs(phase))]
        for phase in range(len(plan))
    ]


def _right_entry(plan, state, phase, sign):
    """The sign beside a sign, and the state again if it lies in the cell beside."""
    columns, rows = plan.parts(phase)
    column, row = plan.place_of(phase, sign)
    x, y = SHIFTS[state]
    beside = (column + x, row + y)
    pair = (beside[0] % columns, beside[1] % rows)
    if pair == beside:
        return plan.sign_at(phase, pair), None
    return plan.sign_at(phase, pair), state
