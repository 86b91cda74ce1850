"""Walks through the states of a graph, sign by sign.

A graph has the methods `first()`, the state in which all walks begin, `signs(state)`, how many signs can be read
there, `behind(state, sign)`, the state to which a sign leads, or None, and `is_goal(state)`. Names are read from the
last sign on, so a walk that is told backwards is a name.
"""

from movecells.errors import TooMany

MOST_STATES = 1000


def come_to(graph, most=None):
    """All states that are come to, in this sequence, each with the state and the sign before it; None for the first."""
    found = {graph.first(): None}
    rows = list(found)
    at = 0
    while at < len(rows):
        state = rows[at]
        at = at + 1
        for sign in range(graph.signs(state)):
            other = graph.behind(state, sign)
            if other is not None and other not in found:
                found[other] = (state, sign)
                rows.append(other)
        if most is not None and len(rows) > most:
            raise TooMany("states", most)
    return found


def shortest_name(graph, found):
    """The name of a shortest walk to a goal, by the states that are come to, or None."""
    for state in found:
        if graph.is_goal(state):
            return _name_to(found, state)
    return None


def name_within(graph, least, most):
    """The name of a shortest walk to a goal that has at least and at most so many signs, or None."""
    layers = [{graph.first(): None}]
    leads = {}
    for many in range(most + 1):
        goals = [state for state in layers[many] if many >= least and graph.is_goal(state)]
        if len(goals) > 0:
            return _name_through(layers, goals[0])
        layers.append(_layer_behind(graph, layers[many], leads))
    return None


def longest_walk(graph):
    """How many signs the longest walk to a goal has, 0 if there is none, None if there is no longest one."""
    leads = {state: _leads(graph, state) for state in come_to(graph)}
    live = _leading_to_goals(graph, leads)
    ahead = {state: [other for other in leads[state] if other in live] for state in live}
    waits = {state: 0 for state in live}
    for state in live:
        for other in ahead[state]:
            waits[other] = waits[other] + 1
    lengths = {state: 0 for state in live}
    free = [state for state in live if waits[state] == 0]
    while len(free) > 0:
        state = free.pop()
        for other in ahead[state]:
            lengths[other] = max(lengths[other], lengths[state] + 1)
            waits[other] = waits[other] - 1
            if waits[other] == 0:
                free.append(other)
    # Who still waits stands on a circle, or behind one, that can be gone round at will.
    if any([waits[state] > 0 for state in live]):
        return None
    return max([lengths[state] for state in live], default=0)


def _name_to(found, state):
    """The signs from a state back to the first one."""
    signs = []
    step = found[state]
    while step is not None:
        before, sign = step
        signs.append(sign)
        step = found[before]
    return tuple(signs)


def _name_through(layers, state):
    """The signs from a state of the last layer back to the first one."""
    signs = []
    now = state
    for layer in layers[:0:-1]:
        now, sign = layer[now]
        signs.append(sign)
    return tuple(signs)


def _layer_behind(graph, layer, leads):
    """The states one sign behind those of a layer, each with a state and a sign before it."""
    found = {}
    for state in layer:
        if state not in leads:
            leads[state] = _leads(graph, state)
        for other in leads[state]:
            found[other] = (state, leads[state][other])
    return found


def _leads(graph, state):
    """The states to which a state leads, each with a sign."""
    found = {}
    for sign in range(graph.signs(state)):
        other = graph.behind(state, sign)
        if other is not None:
            found[other] = sign
    return found


def _leading_to_goals(graph, leads):
    """The states from which a goal is come to, as a dict of True."""
    before = {state: [] for state in leads}
    for state in leads:
        for other in leads[state]:
            before[other].append(state)
    live = {state: True for state in leads if graph.is_goal(state)}
    rows = list(live)
    while len(rows) > 0:
        now = rows.pop()
        for state in before[now]:
            if state not in live:
                live[state] = True
                rows.append(state)
    return live
