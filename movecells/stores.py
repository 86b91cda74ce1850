"""Stores: places of a map by words, with changes that can be taken back."""

from movecells.checks import is_word
from movecells.errors import InvalidPlaces, InvalidWord, NothingToUndo, OtherMap, UnknownWord
from movecells.gaps import check_distance, is_near
from movecells.places import check_place
from movecells.ratios import as_ratio
from movecells.rules import check_rule


class Store:
    """Places of a rule's map by words."""

    def __init__(self, rule):
        check_rule(rule)
        # The rule and the places behind each change; the last ones are those of now. Nothing in here is ever changed.
        self._history = ((rule, {}),)

    @property
    def rule(self):
        """The rule."""
        return self._history[-1][0]

    @rule.setter
    def rule(self, value):
        self._check_other(value)
        self._change(value, self._now())

    def use(self, rule):
        """Take another rule for the same map."""
        self._check_other(rule)
        self._change(rule, self._now())

    @property
    def changes(self):
        """How many changes can be taken back."""
        return len(self._history) - 1

    def __len__(self):
        return len(self._now())

    def __contains__(self, x):
        return isinstance(x, str) and x in self._now()

    def __getitem__(self, at):
        if at not in self:
            raise UnknownWord(at)
        return self._now()[at]

    def __setitem__(self, at, worth):
        if not is_word(at):
            raise InvalidWord(at)
        check_place(self.rule.gauge.area, worth)
        self._change(self.rule, _joined(self._now(), {str(at): _plain_place(worth)}))

    def __iter__(self):
        raise TypeError("a store is not iterated over: take its words")

    def drop(self, word):
        """Remove a word and its place."""
        if word not in self:
            raise UnknownWord(word)
        now = self._now()
        self._change(self.rule, {other: now[other] for other in now if other != word})

    def words(self):
        """The sorted words."""
        return sorted(list(self._now()))

    def places(self):
        """A new dict from the sorted words to their places."""
        now = self._now()
        return {word: now[word] for word in sorted(list(now))}

    def near(self, place, d):
        """The told words: those of the places in asked cells."""
        return self.rule.told(self._now(), place, d)

    def truth(self, place, d):
        """The sorted words of all near places."""
        gauge = self.rule.gauge
        check_place(gauge.area, place)
        check_distance(d)
        now = self._now()
        return [word for word in self.words() if is_near(gauge.area, gauge.kind, place, now[word], d)]

    def missed(self, place, d):
        """The sorted words of the missed places."""
        return self.rule.missed(self._now(), place, d)

    def __iadd__(self, other):
        if not isinstance(other, Store):
            raise InvalidPlaces(other)
        self._check_map(other.rule)
        self._change(self.rule, _joined(self._now(), other._now()))
        return self

    def undo(self):
        """Take the last change back."""
        if self.changes == 0:
            raise NothingToUndo()
        self._history = self._history[:-1]

    def copy(self):
        """A store that changes independently."""
        other = Store(self.rule)
        other._history = self._history
        return other

    def kept(self):
        """All that the store holds now, for `go_back`."""
        return self._history

    def go_back(self, history):
        """Hold again what the store held when it told this by `kept`."""
        self._history = history

    def __eq__(self, other):
        return isinstance(other, Store) and self._history[-1] == other._history[-1]

    def _now(self):
        """The places by their words."""
        return self._history[-1][1]

    def _change(self, rule, places):
        """Go on to another rule or other places."""
        self._history = self._history + ((rule, places),)

    def _check_other(self, rule):
        """Raise the error of a value that is no rule for this map."""
        check_rule(rule)
        self._check_map(rule)

    def _check_map(self, rule):
        """Raise the error of a rule for another map."""
        if self.rule.gauge.area != rule.gauge.area:
            raise OtherMap(self.rule.gauge.area, rule.gauge.area)


class Trial:
    """Lets a store be changed, and takes all changes back at the end."""

    def __init__(self, store):
        self._store = store
        self._history = ()

    def __enter__(self):
        self._history = self._store.kept()
        return self._store

    def __exit__(self, kind, value, trace):
        store = self._store
        store._history = self._history


def tried(store, action):
    """What an action returns for a store, whose changes are taken back."""
    with Trial(store) as held:
        return action(held)


def _plain_place(place):
    """A copy of a place as a plain tuple of Ratios."""
    east, north = place
    return as_ratio(east), as_ratio(north)


def _joined(places, others):
    """A new dict of the places, the others in the place of those with the same words."""
    found = {word: places[word] for word in places}
    for word in others:
        found[word] = others[word]
    return found
