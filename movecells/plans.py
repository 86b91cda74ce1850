"""Plans: the rounds of cuts that come again and again."""

from movecells.checks import check_fineness, is_count_below, is_int, is_list, is_tuple_of
from movecells.errors import (
    InvalidNumber,
    InvalidPair,
    InvalidPhase,
    InvalidPlan,
    InvalidRounds,
    InvalidSign,
    NotBalanced,
    TooMany,
)

AXES = ("east", "north")
LEAST_PARTS = 2
MOST_PARTS = 4


class Plan:
    """A row of rounds that cut both axes into equally many parts."""

    MOST_ROUNDS = 3
    MOST_CUTS = 5
    MOST_SIGNS = 32

    def __init__(self, *rounds):
        _check_rounds(rounds)
        self._rounds = [_plain_cuts(cuts) for cuts in rounds]
        self._parts = [_parts_of(cuts) for cuts in rounds]
        self._places = [_places_of(cuts) for cuts in rounds]
        self._growth = _multiplied(self._parts)[0]

    @classmethod
    def squares(cls, parts):
        """The plan with one round that cuts each axis once."""
        if not _is_parts(parts):
            raise InvalidNumber(parts)
        return cls([("east", parts), ("north", parts)])

    @classmethod
    def codes(cls):
        """The plan with two rounds of five halvings, the axes changing with each one."""
        east = ("east", 2)
        north = ("north", 2)
        return cls([east, north, east, north, east], [north, east, north, east, north])

    def rounds(self):
        """A new list of lists of cuts."""
        return [list(cuts) for cuts in self._rounds]

    def __len__(self):
        return len(self._rounds)

    def phase(self, f):
        """Which round stands at a fineness."""
        check_fineness(f)
        return f % len(self._rounds)

    def signs(self, phase):
        """How many signs the round has."""
        check_phase(self, phase)
        return len(self._places[phase])

    def parts(self, phase):
        """The columns and the rows of the round."""
        check_phase(self, phase)
        return self._parts[phase]

    def place_of(self, phase, sign):
        """The column and the row of a sign."""
        check_sign(self, phase, sign)
        return self._places[phase][sign]

    def sign_at(self, phase, pair):
        """The sign with a column and a row."""
        check_phase(self, phase)
        check_pair(pair, self._parts[phase])
        return self._places[phase].index(pair)

    def counts(self, f):
        """Into how many columns and rows a map is cut at a fineness."""
        check_fineness(f)
        return counts_at(self, f)

    @property
    def growth(self):
        """Into how many parts all rounds together cut each axis."""
        return self._growth

    def turned(self):
        """The plan with the axes of all cuts exchanged."""
        rounds = [_turned_cuts(cuts) for cuts in self._rounds]
        return Plan(*rounds)

    def __eq__(self, other):
        return isinstance(other, Plan) and self._rounds == other._rounds

    def __repr__(self):
        return f"Plan({', '.join([repr(cuts) for cuts in self._rounds])})"


def check_plan(plan):
    """Raise the error of a value that is no plan."""
    if not isinstance(plan, Plan):
        raise InvalidPlan(plan)


def is_axis(value):
    """Whether a value is one of the two axes."""
    return isinstance(value, str) and value in AXES


def counts_at(plan, f):
    """The columns and the rows of a fineness, which may be above the greatest one that can be passed."""
    turns, rest = divmod(f, len(plan))
    columns, rows = _multiplied([plan.parts(phase) for phase in range(rest)])
    many = _power(plan.growth, turns)
    return columns * many, rows * many


def check_phase(plan, phase):
    """Raise the error of a phase that is none of the plan."""
    if not is_count_below(phase, len(plan)):
        raise InvalidPhase(phase)


def check_sign(plan, phase, sign):
    """Raise the error of a phase, or of a sign that is none of its round."""
    if not is_count_below(sign, plan.signs(phase)):
        raise InvalidSign(sign)


def check_pair(pair, parts):
    """Raise the error of a pair that is not within as many columns and rows."""
    if not is_tuple_of(pair, 2):
        raise InvalidPair(pair)
    if not all([is_count_below(number, many) for number, many in zip(pair, parts)]):
        raise InvalidPair(pair)


def _is_parts(value):
    """Whether a cell can be cut into so many parts."""
    return is_int(value) and LEAST_PARTS <= value <= MOST_PARTS


def _is_cut(value):
    """Whether a value is a cut."""
    if not is_tuple_of(value, 2):
        return False
    return is_axis(value[0]) and _is_parts(value[1])


def _is_cuts(value):
    """Whether a value is a round: a list of cuts."""
    if not is_list(value) or not 1 <= len(value) <= Plan.MOST_CUTS:
        return False
    return all([_is_cut(cut) for cut in value])


def _check_rounds(rounds):
    """Raise the first error of the rounds of a plan."""
    if len(rounds) == 0:
        raise InvalidRounds(None)
    for position, cuts in enumerate(rounds):
        if not _is_cuts(cuts):
            raise InvalidRounds(position)
    if len(rounds) > Plan.MOST_ROUNDS:
        raise TooMany("rounds", Plan.MOST_ROUNDS)
    all_parts = [_parts_of(cuts) for cuts in rounds]
    if max([columns * rows for columns, rows in all_parts]) > Plan.MOST_SIGNS:
        raise TooMany("signs", Plan.MOST_SIGNS)
    columns, rows = _multiplied(all_parts)
    if columns != rows:
        raise NotBalanced(columns, rows)


def _plain_cuts(cuts):
    """A copy of a round that holds plain strings and integers only."""
    return [(AXES[AXES.index(axis)], int(parts)) for axis, parts in cuts]


def _turned_cuts(cuts):
    """The cuts of a round with the axes exchanged."""
    return [(AXES[1 - AXES.index(axis)], parts) for axis, parts in cuts]


def _parts_of(cuts):
    """The columns and the rows of a round."""
    columns, rows = _places_of(cuts)[-1]
    return columns + 1, rows + 1


def _places_of(cuts):
    """The columns and rows of the signs of a round, by rising signs."""
    places = [(0, 0)]
    for axis, parts in cuts:
        places = [_within(place, axis, parts, part) for place in places for part in range(parts)]
    return places


def _within(place, axis, parts, part):
    """The column and the row that a place has behind one cut more."""
    column, row = place
    if axis == "east":
        return column * parts + part, row
    return column, row * parts + part


def _multiplied(all_parts):
    """The product of all columns and that of all rows."""
    all_columns = 1
    all_rows = 1
    for columns, rows in all_parts:
        all_columns = all_columns * columns
        all_rows = all_rows * rows
    return all_columns, all_rows


def _power(base, exponent):
    """The product of the base, taken so many times."""
    worth = 1
    for _ in range(exponent):
        worth = worth * base
    return worth
