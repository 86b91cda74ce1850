"""Desks: stores that are led by commands."""

from movecells.checks import is_word
from movecells.errors import CellError, CommandFailed, InvalidCommand, LimitError, MissingError, StateError
from movecells.ratios import number_of

PUT = "put"
DROP = "drop"
NEAR = "near"
TRUTH = "truth"
UNDO = "undo"


class Desk:
    """Leads a store by commands."""

    def __init__(self, store):
        self._store = store

    @property
    def store(self):
        """The store that is led."""
        return self._store

    @staticmethod
    def is_command(value):
        """Whether any value is a command."""
        return _parts_of(value) is not None

    def do(self, command):
        """Do what a command says, and tell its answer."""
        parts = _parts_of(command)
        if parts is None:
            raise InvalidCommand(command)
        return _done(self._store, parts)

    def do_all(self, *commands):
        """The answers of several commands; if one fails, none is done."""
        before = self._store.kept()
        answers = []
        for position, command in enumerate(commands):
            try:
                answers.append(self.do(command))
            except (CellError, MissingError, StateError, LimitError) as error:
                self._store.go_back(before)
                raise CommandFailed(position) from error
        return answers


def _parts_of(value):
    """The word of a command and what stands behind it, the numbers as such; None if a value is no command."""
    if not isinstance(value, str):
        return None
    words = value.split(" ")
    word = words[0]
    rest = words[1:]
    if word == UNDO:
        return _all_told(word, rest, 0)
    if word in (NEAR, TRUTH):
        return _all_told(word, [number_of(text) for text in rest], 3)
    if word not in (PUT, DROP) or len(rest) == 0 or not is_word(rest[0]):
        return None
    numbers = [number_of(text) for text in rest[1:]]
    if word == PUT:
        return _all_told(word, [rest[0]] + numbers, 3)
    return _all_told(word, [rest[0]] + numbers, 1)


def _all_told(word, rest, many):
    """The word and just so many values behind it, or None."""
    if len(rest) != many or None in rest:
        return None
    return [word] + rest


def _done(store, parts):
    """The answer of a command, which is done."""
    word = parts[0]
    rest = parts[1:]
    if word == PUT:
        store[rest[0]] = (rest[1], rest[2])
        return "put"
    if word == DROP:
        store.drop(rest[0])
        return "dropped"
    if word == UNDO:
        store.undo()
        return "undone"
    place = (rest[0], rest[1])
    if word == NEAR:
        return _listed(store.near(place, rest[2]))
    return _listed(store.truth(place, rest[2]))


def _listed(words):
    """The words with one space between, or a dash."""
    if len(words) == 0:
        return "-"
    return " ".join(words)
