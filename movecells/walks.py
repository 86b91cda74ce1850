"""Walks through the states of a graph, sign by sign.

A graph has the methods `first()`, the state in which all walks begin, `signs(state)`, how many signs can be read
there, `behind(state, sign)`, the state to which a sign leads, or None, and `is_goal(state)`. Names are read from the
last sign on, so a walk that is told backwards is a name.
"""

from movecells.errors import TooMany

MOST_STATES = 1000


class Ways:
    """From which states of a graph some goal is just so many signs off.

    Sets of states are kept as INTEGERS with a bit for each state: there can be very many states, and as many sets.
    """

    def __init__(self, graph, most):
        states = list(come_to(graph))
        self._leads = {state: _leads(graph, state) for state in states}
        self._bits = {state: 1 << at for at, state in enumerate(states)}
        self._layers = []
        again = {}
        layer = sum([self._bits[state] for state in states if graph.is_goal(state)])
        ahead = {state: sum([self._bits[other] for other in self._leads[state]]) for state in states}
        # What comes once more is followed by the same as before.
        while layer not in again and len(self._layers) <= most:
            again[layer] = len(self._layers)
            self._layers.append(layer)
            layer = sum([self._bits[state] for state in states if ahead[state] & layer != 0])
        self._back = again.get(layer, 0)

    def is_off(self, state, many):
        """Whether from a state some goal is just so many signs off."""
        at = many
        if at >= len(self._layers):
            at = self._back + (many - self._back) % (len(self._layers) - self._back)
        return self._layers[at] & self._bits[state] != 0

    def name_from(self, state, many):
        """The name of a walk from a state to a goal that is just so many signs off."""
        signs = []
        now = state
        for left in reversed(range(many)):
            others = [other for other in self._leads[now] if self.is_off(other, left)]
            signs.append(self._leads[now][others[0]])
            now = others[0]
        return tuple(signs[::-1])


def come_to(graph, most=None):
    """All states that are come to, in this sequence, each with the state and the sign before it; None for the first."""
    found = {graph.first(): None}
    rows = list(found)
    at = 0
    while at < len(rows):
        state = rows[at]
        at = at + 1
        for sign in range(graph.signs(state)):
            other = graph.behind(state, sign)
            if other is not None and other not in found:
                found[other] = (state, sign)
                rows.append(other)
        if most is not None and len(rows) > most:
            raise TooMany("states", most)
    return found


def shortest_name(graph, found):
    """The name of a shortest walk to a goal, by the states that are come to, or None."""
    for state in found:
        if graph.is_goal(state):
            return _name_to(found, state)
    return None


def name_within(graph, least, most):
    """The name of a shortest walk to a goal that has at least and at most so many signs, or None."""
    ways = Ways(graph, most)
    first = graph.first()
    for many in range(least, most + 1):
        if ways.is_off(first, many):
            return ways.name_from(first, many)
    return None


def longest_walk(graph):
    """How many signs the longest walk to a goal has, 0 if there is none, None if there is no longest one."""
    leads = {state: _leads(graph, state) for state in come_to(graph)}
    live = _leading_to_goals(graph, leads)
    ahead = {state: [other for other in leads[state] if other in live] for state in live}
    waits = {state: 0 for state in live}
    for state in live:
        for other in ahead[state]:
            waits[other] = waits[other] + 1
    lengths = {state: 0 for state in live}
    free = [state for state in live if waits[state] == 0]
    while len(free) > 0:
        state = free.pop()
        for other in ahead[state]:
            lengths[other] = max(lengths[other], lengths[state] + 1)
            waits[other] = waits[other] - 1
            if waits[other] == 0:
                free.append(other)
    # Who still waits stands on a circle, or behind one, that can be gone round at will.
    if any([waits[state] > 0 for state in live]):
        return None
    return max([lengths[state] for state in live], default=0)


def _name_to(found, state):
    """The signs from a state back to the first one."""
    signs = []
    step = found[state]
    while step is not None:
        before, sign = step
        signs.append(sign)
        step = found[before]
    return tuple(signs)


def _leads(graph, state):
    """The states to which a state leads, each with a sign."""
    found = {}
    for sign in range(graph.signs(state)):
        other = graph.behind(state, sign)
        if other is not None:
            found[other] = sign
    return found


def _leading_to_goals(graph, leads):
    """The states from which a goal is come to, as a dict of True."""
    before = {state: [] for state in leads}
    for state in leads:
        for other in leads[state]:
            before[other].append(state)
    live = {state: True for state in leads if graph.is_goal(state)}
    rows = list(live)
    while len(rows) > 0:
        now = rows.pop()
        for state in before[now]:
            if state not in live:
                live[state] = True
                rows.append(state)
    return live
