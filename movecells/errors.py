"""The errors of the package, each with the values that it was made with."""


class CellError(ValueError):
    """A value is not of the form that is asked for."""


class InvalidNumber(CellError):
    """A value is no number of the kind that is asked for."""

    def __init__(self, value):
        self.value = value


class InvalidRounds(CellError):
    """A plan has no rounds, or one that is no list of cuts."""

    def __init__(self, position):
        self.position = position


class InvalidPhase(CellError):
    """A value is no phase of the plan."""

    def __init__(self, value):
        self.value = value


class InvalidSign(CellError):
    """A value is no sign of its round."""

    def __init__(self, value):
        self.value = value


class InvalidPair(CellError):
    """A value is no pair of numbers within columns and rows."""

    def __init__(self, value):
        self.value = value


class InvalidLength(CellError):
    """A value is no length of a map."""

    def __init__(self, value):
        self.value = value


class InvalidClosed(CellError):
    """A value is no list of closed axes."""

    def __init__(self, value):
        self.value = value


class InvalidAxis(CellError):
    """A value is no axis."""

    def __init__(self, value):
        self.value = value


class InvalidName(CellError):
    """A value is no name of the plan."""

    def __init__(self, value):
        self.value = value


class InvalidPlace(CellError):
    """A value is no place of the map."""

    def __init__(self, value):
        self.value = value


class InvalidKind(CellError):
    """A value is no kind of distance."""

    def __init__(self, value):
        self.value = value


class InvalidDirection(CellError):
    """A value is no direction."""

    def __init__(self, value):
        self.value = value


class InvalidMove(CellError):
    """A value is no move."""

    def __init__(self, value):
        self.value = value


class InvalidEdges(CellError):
    """A value is no pair of words for the edges of a search."""

    def __init__(self, value):
        self.value = value


class InvalidStates(CellError):
    """A table has no list of states, or one that is no state."""

    def __init__(self, position):
        self.position = position


class InvalidBegins(CellError):
    """A value does not tell the states in which directions begin."""

    def __init__(self, value):
        self.value = value


class InvalidEntry(CellError):
    """A value is no entry of a table."""

    def __init__(self, value):
        self.value = value


class InvalidReach(CellError):
    """A value is no reach of a gauge."""

    def __init__(self, value):
        self.value = value


class InvalidDistance(CellError):
    """A value is no distance."""

    def __init__(self, value):
        self.value = value


class InvalidMoves(CellError):
    """A rule has no list of moves, or one with a wrong move."""

    def __init__(self, position):
        self.position = position


class InvalidLooks(CellError):
    """A value is no dict of looks."""

    def __init__(self, value):
        self.value = value


class InvalidPlaces(CellError):
    """A value does not tell places by words."""

    def __init__(self, value):
        self.value = value


class InvalidWord(CellError):
    """A value is no word."""

    def __init__(self, value):
        self.value = value


class InvalidTarget(CellError):
    """A value is no target of the rule."""

    def __init__(self, value):
        self.value = value


class InvalidState(CellError):
    """A value is no state."""

    def __init__(self, value):
        self.value = value


class InvalidRule(CellError):
    """A value is no rule."""

    def __init__(self, value):
        self.value = value


class InvalidTable(CellError):
    """A value is no table."""

    def __init__(self, value):
        self.value = value


class InvalidMap(CellError):
    """A value is no map."""

    def __init__(self, value):
        self.value = value


class InvalidPlan(CellError):
    """A value is no plan."""

    def __init__(self, value):
        self.value = value


class InvalidGauge(CellError):
    """A value is no gauge."""

    def __init__(self, value):
        self.value = value


class InvalidText(CellError):
    """A text is wrong at a line, counted from 1."""

    def __init__(self, line):
        self.line = line


class InvalidClaim(CellError):
    """A value is no claim."""

    def __init__(self, value):
        self.value = value


class InvalidCommand(CellError):
    """A value is no command."""

    def __init__(self, value):
        self.value = value


class MissingError(LookupError):
    """Something that is asked for is not there."""


class UnknownWord(MissingError):
    """A value is no word of the store."""

    def __init__(self, value):
        self.value = value


class StateError(RuntimeError):
    """Values that are right by themselves do not go together."""


class DividedByZero(StateError):
    """A number is divided by 0."""


class NotBalanced(StateError):
    """The rounds of a plan cut the axes into unlike numbers of parts."""

    def __init__(self, columns, rows):
        self.columns = columns
        self.rows = rows


class OtherPlan(StateError):
    """Two objects have unlike plans."""

    def __init__(self, one, other):
        self.one = one
        self.other = other


class OtherMap(StateError):
    """Two objects have unlike maps."""

    def __init__(self, one, other):
        self.one = one
        self.other = other


class NoNeighbour(StateError):
    """A name has no neighbour for a move."""

    def __init__(self, value, move):
        self.value = value
        self.move = move


class NothingToUndo(StateError):
    """A store has no change that can be taken back."""


class CommandFailed(StateError):
    """One of several commands failed."""

    def __init__(self, position):
        self.position = position


class LimitError(ArithmeticError):
    """Something is beyond a limit."""


class TooMany(LimitError):
    """There are more of something than its limit lets."""

    def __init__(self, what, limit):
        self.what = what
        self.limit = limit
