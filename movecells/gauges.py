"""Gauges: how fine one asks for a distance, and which cells beside can be near."""

from movecells.checks import MOST_FINENESS, check_fineness
from movecells.errors import InvalidGauge, InvalidNumber, InvalidReach, TooMany
from movecells.gaps import KINDS, check_distance, check_kind, joined
from movecells.maps import check_area, sides_at
from movecells.plans import check_sign
from movecells.ratios import Ratio, as_ratio, is_above_0, is_number, smaller
from movecells.steps import MOVES


class Gauge:
    """A map, two reaches and a kind of distance."""

    def __init__(self, area, east, north, kind):
        check_area(area)
        _check_reaches(east, north)
        check_kind(kind)
        self._area = area
        self._reaches = (as_ratio(east), as_ratio(north))
        self._kind = KINDS[KINDS.index(kind)]
        # Kept because graphs ask for the same answers again and again.
        self._taken = None
        self._reached = {}

    @property
    def area(self):
        """The map."""
        return self._area

    @property
    def reaches(self):
        """The reaches for both axes."""
        return self._reaches

    @property
    def kind(self):
        """The kind of distance."""
        return self._kind

    def greatest(self, f):
        """The greatest distance at a fineness."""
        check_fineness(f)
        if f == 0:
            raise InvalidNumber(f)
        return greatest_at(self, f)

    def __call__(self, d):
        check_distance(d)
        return fineness_of(self, d)

    def is_taken(self, f):
        """Whether a fineness is that of some distance."""
        check_fineness(f)
        return f == 0 or _is_less_behind(self, f)

    def taken(self):
        """The phases whose finenesses are taken."""
        if self._taken is None:
            phases = range(len(self._area.plan))
            self._taken = [phase for phase in phases if _is_less_behind(self, first_fineness(self, phase))]
        return list(self._taken)

    def reached(self, phase, sign):
        """The moves to cells that can be near a place with a next sign."""
        check_sign(self._area.plan, phase, sign)
        if (phase, sign) not in self._reached:
            self._reached[(phase, sign)] = _reached_with(self, phase, sign)
        return list(self._reached[(phase, sign)])

    def with_reaches(self, east, north):
        """A gauge with other reaches."""
        return Gauge(self._area, east, north, self._kind)

    def __mul__(self, other):
        if not is_number(other):
            raise InvalidReach(other)
        east, north = [reach * other for reach in self._reaches]
        if not (_is_reach(east) and _is_reach(north)):
            raise InvalidReach(other)
        return Gauge(self._area, east, north, self._kind)

    def __rmul__(self, other):
        return self * other

    def __eq__(self, other):
        if not isinstance(other, Gauge) or self._area != other._area:
            return False
        return self._reaches == other._reaches and self._kind == other._kind

    def __repr__(self):
        return f"Gauge({repr(self._area)}, {repr(self._reaches[0])}, {repr(self._reaches[1])}, {repr(self._kind)})"


def check_gauge(gauge):
    """Raise the error of a value that is no gauge."""
    if not isinstance(gauge, Gauge):
        raise InvalidGauge(gauge)


def greatest_at(gauge, f):
    """The greatest distance of a fineness from 1 on, which may be above those that can be passed."""
    sides = sides_at(gauge.area, f)
    east, north = [side * reach for side, reach in zip(sides, gauge.reaches)]
    return smaller(east, north)


def first_fineness(gauge, phase):
    """The least fineness from 1 on with a phase."""
    if phase == 0:
        return len(gauge.area.plan)
    return phase


def fineness_of(gauge, d):
    """The fineness of a right distance."""
    plan = gauge.area.plan
    firsts = [greatest_at(gauge, f + 1) for f in range(len(plan))]
    # Behind all rounds the greatest distances are the same ones, divided by the growth.
    grown = as_ratio(d)
    f = 0
    while not firsts[f % len(plan)].is_below(grown):
        f = f + 1
        if f > MOST_FINENESS:
            raise TooMany("signs", MOST_FINENESS)
        if f % len(plan) == 0:
            grown = grown * plan.growth
    return f


def _check_reaches(east, north):
    """Raise the error of the first reach that is none."""
    for reach in (east, north):
        if not _is_reach(reach):
            raise InvalidReach(reach)


def _is_reach(value):
    """Whether a value is a NUMBER greater than 0 and at most 1."""
    return is_above_0(value) and not Ratio(1).is_below(value)


def _is_less_behind(gauge, f):
    """Whether the greatest distance becomes less behind a fineness from 1 on."""
    return greatest_at(gauge, f + 1).is_below(greatest_at(gauge, f))


def _reached_with(gauge, phase, sign):
    """The moves whose least gaps together are less than the greatest distance of the phase."""
    greatest = greatest_at(gauge, first_fineness(gauge, phase))
    return [move for move in MOVES if _least(gauge, phase, sign, move).is_below(greatest)]


def _least(gauge, phase, sign, move):
    """What the least gaps of a move on both axes make together."""
    plan = gauge.area.plan
    sides = sides_at(gauge.area, first_fineness(gauge, phase))
    gaps = [
        _least_gap(many, side, part, parts)
        for many, side, part, parts in zip(move, sides, plan.place_of(phase, sign), plan.parts(phase))
    ]
    return joined(gauge.kind, gaps)


def _least_gap(many, side, part, parts):
    """The least gap on one axis, for a next sign that is one of so many parts of the side."""
    if many == 0:
        return Ratio(0)
    if many == 1:
        return side * Ratio(parts - part - 1, parts)
    return side * Ratio(part, parts)
