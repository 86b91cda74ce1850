"""Lines of texts, and what their words say."""

from movecells.errors import InvalidText
from movecells.plans import AXES, LEAST_PARTS, MOST_PARTS, Plan
from movecells.rules import STAY
from movecells.steps import MOVES
from movecells.tables import Table


class Lines:
    """The lines of a text, read one behind another."""

    def __init__(self, text):
        if not isinstance(text, str):
            raise InvalidText(1)
        self._lines = text.split("\n")
        self._at = 0

    def words(self):
        """The words of the line that comes next; none if there is no line that ends with a line feed."""
        if self._at + 1 == len(self._lines):
            return []
        return self._lines[self._at].split(" ")

    def go_on(self):
        """Go on to the line behind."""
        self._at = self._at + 1

    def number(self):
        """The number of the line that comes next, counted from 1."""
        return self._at + 1

    def check_end(self):
        """Raise the error of a line that stands behind all that is right."""
        if self._lines[self._at:] != [""]:
            raise InvalidText(self.number())


def cut_word(cut):
    """The word of a cut: the first letter of its axis, and the parts."""
    axis, parts = cut
    return f"{axis[0]}{parts}"


def entry_word(entry):
    """The word of an entry: the sign, and the state if there is one."""
    sign, state = entry
    if state is None:
        return str(sign)
    return f"{sign}:{state}"


def moves_words(moves):
    """The words of a list of moves."""
    return " ".join([_move_word(move) for move in moves])


def cuts_of(words):
    """The cuts of a round, or None if the words tell no round."""
    cuts = {cut_word((axis, parts)): (axis, parts) for axis in AXES for parts in range(LEAST_PARTS, MOST_PARTS + 1)}
    if not 1 <= len(words) <= Plan.MOST_CUTS or not all([word in cuts for word in words]):
        return None
    signs = 1
    for word in words:
        signs = signs * cuts[word][1]
    if signs > Plan.MOST_SIGNS:
        return None
    return [cuts[word] for word in words]


def states_of(words, many):
    """So many numbers of states, or None if the words do not tell them."""
    numbers = {str(state): state for state in range(Table.MOST_STATES)}
    if len(words) != many or not all([word in numbers for word in words]):
        return None
    return tuple([numbers[word] for word in words])


def entries_of(words, signs):
    """The entries for so many signs, or None if the words do not tell them."""
    states = [None] + list(range(Table.MOST_STATES))
    entries = {entry_word((sign, state)): (sign, state) for sign in range(signs) for state in states}
    if len(words) != signs or not all([word in entries for word in words]):
        return None
    return [entries[word] for word in words]


def moves_of(words):
    """The sorted moves, among them (0, 0), or None if the words tell no such list."""
    moves = {_move_word(move): move for move in MOVES}
    found = [moves.get(word) for word in words]
    if STAY not in found or found != [move for move in MOVES if move in found]:
        return None
    return found


def _move_word(move):
    """The word of a move."""
    i, j = move
    return f"{i},{j}"
