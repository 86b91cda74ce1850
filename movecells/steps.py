"""Steps and moves: the names that a table makes, and the true neighbours."""

from movecells.checks import is_int, is_list, is_tuple_of
from movecells.errors import InvalidDirection, InvalidEdges, InvalidMove, NoNeighbour
from movecells.maps import check_area
from movecells.names import check_name, name_with, pair_of
from movecells.plans import AXES, counts_at
from movecells.tables import check_direction, check_table

MOVES = ((-1, -1), (-1, 0), (-1, 1), (0, -1), (0, 0), (0, 1), (1, -1), (1, 0), (1, 1))
EDGE_WORDS = ("seam", "stop")
# The directions of steps forward and backward along the axes.
FORWARD = ("east", "north")
BACKWARD = ("west", "south")


def step(table, name, direction):
    """The name that a step makes, and whether it has come to the edge."""
    check_table(table)
    check_name(table.plan, name)
    check_direction(direction)
    return stepped(table, name, direction)


def steps(table, name, directions):
    """Yield what steps tell, each one from the name that the one before has told."""
    check_table(table)
    check_name(table.plan, name)
    if not is_list(directions):
        raise InvalidDirection(directions)
    for direction in directions:
        check_direction(direction)
    now = name
    for direction in directions:
        told = stepped(table, now, direction)
        yield told
        now = told[0]


def moved(table, name, move, edges):
    """The name that a move makes, or None."""
    check_table(table)
    check_name(table.plan, name)
    check_move(move)
    check_edges(edges)
    return made_by(table, name, move, edges)


def neighbour(area, name, move):
    """The name of the cell beside."""
    check_area(area)
    check_name(area.plan, name)
    check_move(move)
    beside = _beside(area, name, move)
    if beside is None:
        raise NoNeighbour(name, move)
    return beside


def ring(area, name):
    """The neighbours for all moves that have one."""
    check_area(area)
    check_name(area.plan, name)
    found = {move: _beside(area, name, move) for move in MOVES}
    return {move: found[move] for move in MOVES if found[move] is not None}


def is_move(value):
    """Whether a value is a move."""
    if not is_tuple_of(value, 2):
        return False
    return all([is_int(number) and -1 <= number <= 1 for number in value])


def check_move(move):
    """Raise the error of a value that is no move."""
    if not is_move(move):
        raise InvalidMove(move)


def check_edges(edges):
    """Raise the error of a value that is not the tuple of two words for edges."""
    if not are_edges(edges):
        raise InvalidEdges(edges)


def are_edges(value):
    """Whether a value is a tuple of two words for edges."""
    if not is_tuple_of(value, 2):
        return False
    return all([isinstance(word, str) and word in EDGE_WORDS for word in value])


def stepped(table, name, direction):
    """What a step tells, for values that are known to be right."""
    signs = list(name)
    state = table.begin(direction)
    for at in reversed(range(len(name))):
        sign, state = table[state, at % len(table.plan), signs[at]]
        signs[at] = sign
        if state is None:
            return tuple(signs), False
    return tuple(signs), True


def made_by(table, name, move, edges):
    """What a move makes, for values that are known to be right."""
    made = tuple(name)
    for axis, many, word in zip(AXES, move, edges):
        if many != 0:
            made, is_edge = stepped(table, made, direction_of(axis, many))
            if is_edge and word == "stop":
                return None
    return made


def direction_of(axis, many):
    """The direction of one step along an axis, forward if the number is 1."""
    if many == 1:
        return FORWARD[AXES.index(axis)]
    return BACKWARD[AXES.index(axis)]


def _beside(area, name, move):
    """The neighbour of a right name, or None."""
    pair = pair_of(area.plan, name)
    counts = counts_at(area.plan, len(name))
    gone = [number + many for number, many in zip(pair, move)]
    back = [number % count for number, count in zip(gone, counts)]
    for axis, one, other in zip(AXES, gone, back):
        if one != other and not area.is_closed(axis):
            return None
    return name_with(area.plan, len(name), back)
