"""Rules of search: which names are asked for a place and a distance."""

from movecells.checks import is_count_below, is_list, is_tuple_of, is_word
from movecells.errors import InvalidLooks, InvalidMoves, InvalidPlaces, InvalidRule, OtherPlan
from movecells.gaps import check_distance, is_near, reaches_cell
from movecells.gauges import check_gauge, fineness_of
from movecells.names import name_with, pair_of
from movecells.places import check_place, is_place, pair_at, sign_behind
from movecells.plans import AXES, check_sign
from movecells.steps import MOVES, check_edges, is_move, made_by
from movecells.tables import Table, check_table

STAY = (0, 0)


class Rule:
    """A gauge, a table, edges, and the moves that are made for each next sign."""

    def __init__(self, gauge, table, moves, *, edges=("seam", "seam"), looks=None):
        check_gauge(gauge)
        check_table(table)
        _check_whole_moves(moves)
        check_edges(edges)
        if looks is not None and not _are_looks(table.plan, looks):
            raise InvalidLooks(looks)
        _check_plans(gauge, table)
        self._gauge = gauge
        self._table = table
        self._moves = _sorted_moves(moves)
        self._edges = _plain_edges(edges)
        self._looks = _sorted_looks(looks)

    @classmethod
    def whole(cls, gauge):
        """The rule that asks the own cell and all its neighbours."""
        check_gauge(gauge)
        area = gauge.area
        return cls(gauge, Table.right(area.plan), MOVES, edges=right_edges(area))

    @property
    def gauge(self):
        """The gauge."""
        return self._gauge

    @property
    def table(self):
        """The table."""
        return self._table

    @property
    def edges(self):
        """The words for the edges of both axes."""
        return self._edges

    def moves(self, phase, sign):
        """The sorted list of a phase and a next sign."""
        check_sign(self._table.plan, phase, sign)
        return list(self._looks.get((phase, sign), self._moves))

    def base_moves(self):
        """The sorted moves for the next signs that have no look."""
        return list(self._moves)

    def looks(self):
        """A new dict from rounds and signs to sorted lists."""
        return {key: list(self._looks[key]) for key in sorted(self._looks)}

    def with_table(self, table):
        """The rule with another table for the same plan."""
        check_table(table)
        _check_plans(self._gauge, table)
        return Rule(self._gauge, table, self._moves, edges=self._edges, looks=self._looks)

    def with_edges(self, edges):
        """The rule with other edges."""
        return Rule(self._gauge, self._table, self._moves, edges=edges, looks=self._looks)

    def with_look(self, phase, sign, moves):
        """The rule with one look more, or with another one."""
        check_sign(self._table.plan, phase, sign)
        _check_whole_moves(moves)
        looks = self.looks()
        looks[(phase, sign)] = moves
        return Rule(self._gauge, self._table, self._moves, edges=self._edges, looks=looks)

    def without_looks(self):
        """The rule with the same moves for all next signs."""
        return Rule(self._gauge, self._table, self._moves, edges=self._edges)

    def __or__(self, other):
        _check_moves(other)
        moves = [move for move in MOVES if move in self._moves or move in other]
        return Rule(self._gauge, self._table, moves, edges=self._edges, looks=self._looks)

    def __sub__(self, other):
        _check_moves(other)
        moves = [move for move in self._moves if move == STAY or move not in other]
        return Rule(self._gauge, self._table, moves, edges=self._edges, looks=self._looks)

    def __call__(self, place, d):
        self._check_asked(place, d)
        return _asked(self, place, fineness_of(self._gauge, d))

    def misses(self, place, other, d):
        """Whether the other place is near, and in no cell that is asked."""
        check_place(self._gauge.area, place)
        check_place(self._gauge.area, other)
        check_distance(d)
        f = fineness_of(self._gauge, d)
        return _is_missed(self, _asked_pairs(self, place, f), place, other, d, f)

    def told(self, places, place, d):
        """The words of the places in asked cells, each as often as its cell is asked."""
        self._check_places(places)
        self._check_asked(place, d)
        f = fineness_of(self._gauge, d)
        cells = {word: pair_at(self._gauge.area, places[word], f) for word in places}
        return sorted([word for pair in _asked_pairs(self, place, f) for word in places if cells[word] == pair])

    def missed(self, places, place, d):
        """The words of the places that are missed."""
        self._check_places(places)
        self._check_asked(place, d)
        f = fineness_of(self._gauge, d)
        pairs = _asked_pairs(self, place, f)
        return sorted([word for word in places if _is_missed(self, pairs, place, places[word], d, f)])

    def in_vain(self, place, d):
        """The asked names in whose cells no place is near."""
        self._check_asked(place, d)
        area = self._gauge.area
        asked = sorted(set(_asked(self, place, fineness_of(self._gauge, d))))
        return [name for name in asked if not reaches_cell(area, self._gauge.kind, place, name, d)]

    def __eq__(self, other):
        if not isinstance(other, Rule) or self._gauge != other._gauge or self._table != other._table:
            return False
        return self._edges == other._edges and self._moves == other._moves and self._looks == other._looks

    def _check_asked(self, place, d):
        """Raise the error of a place or a distance that cannot be asked for."""
        check_place(self._gauge.area, place)
        check_distance(d)

    def _check_places(self, places):
        """Raise the error of what is no dict from words to places."""
        if not isinstance(places, dict):
            raise InvalidPlaces(places)
        if not all([is_word(word) and is_place(self._gauge.area, places[word]) for word in places]):
            raise InvalidPlaces(places)


def check_rule(rule):
    """Raise the error of a value that is no rule."""
    if not isinstance(rule, Rule):
        raise InvalidRule(rule)


def right_edges(area):
    """The edges with which searches go round the closed axes of a map alone."""
    return tuple(["seam" if area.is_closed(axis) else "stop" for axis in AXES])


def lists_at(rule, phase):
    """The lists of a phase, as tuples, each with its next signs."""
    found = {}
    for sign in range(rule.table.plan.signs(phase)):
        found.setdefault(tuple(rule.moves(phase, sign)), []).append(sign)
    return found


def _check_plans(gauge, table):
    """Raise the error of a table for another plan than that of the gauge's map."""
    if gauge.area.plan != table.plan:
        raise OtherPlan(gauge.area.plan, table.plan)


def _check_moves(moves):
    """Raise the error of what is no list of moves, each once."""
    if not is_list(moves):
        raise InvalidMoves(None)
    for position, move in enumerate(moves):
        if not is_move(move) or move in moves[:position]:
            raise InvalidMoves(position)


def _check_whole_moves(moves):
    """Raise the error of what is no list of moves, each once, among them (0, 0)."""
    _check_moves(moves)
    if STAY not in moves:
        raise InvalidMoves(None)


def _are_whole_moves(value):
    """Whether a value is a list of moves, each once, among them (0, 0)."""
    if not is_list(value) or not all([is_move(move) for move in value]):
        return False
    return STAY in value and len(value) == len(_sorted_moves(value))


def _are_looks(plan, value):
    """Whether a value is a dict from rounds and signs to lists of moves."""
    if not isinstance(value, dict) or not all([_is_look(plan, key) for key in value]):
        return False
    return all([_are_whole_moves(value[key]) for key in value])


def _is_look(plan, value):
    """Whether a value is a tuple of a round and one of its signs."""
    if not is_tuple_of(value, 2):
        return False
    phase, sign = value
    return is_count_below(phase, len(plan)) and is_count_below(sign, plan.signs(phase))


def _sorted_moves(moves):
    """A new sorted list of plain moves."""
    return [move for move in MOVES if move in moves]


def _sorted_looks(looks):
    """A new dict of sorted lists."""
    if looks is None:
        return {}
    return {tuple(key): _sorted_moves(looks[key]) for key in looks}


def _plain_edges(edges):
    """A plain copy of the tuple of two words."""
    return tuple(["stop" if word == "stop" else "seam" for word in edges])


def _asked(rule, place, f):
    """The names that are asked for a right place at a fineness."""
    if f == 0:
        return [()]
    area = rule.gauge.area
    name = name_with(area.plan, f, pair_at(area, place, f))
    moves = rule.moves(f % len(area.plan), sign_behind(area, place, f))
    made = [made_by(rule.table, name, move, rule.edges) for move in moves]
    return [other for other in made if other is not None]


def _asked_pairs(rule, place, f):
    """The number pairs of the asked names: names of one fineness are the same if these are."""
    return [pair_of(rule.gauge.area.plan, name) for name in _asked(rule, place, f)]


def _is_missed(rule, pairs, place, other, d, f):
    """Whether the other place is near, but in no cell with one of the number pairs."""
    area = rule.gauge.area
    return is_near(area, rule.gauge.kind, place, other, d) and pair_at(area, other, f) not in pairs
