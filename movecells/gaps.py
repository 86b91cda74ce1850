"""Gaps and distances of places, and the ways from places to cells."""

from movecells.errors import InvalidDistance, InvalidKind, InvalidPlace
from movecells.maps import check_area, check_axis
from movecells.names import check_name
from movecells.places import borders_of, check_place
from movecells.plans import AXES
from movecells.ratios import Ratio, as_ratio, greater, is_above_0, is_on, smaller

KINDS = ("box", "sum")


def gap(area, axis, one, other):
    """How far two numbers are from each other on an axis."""
    check_area(area)
    check_axis(axis)
    for number in (one, other):
        if not is_on(number, area.length(axis)):
            raise InvalidPlace(number)
    return _gap_on(area, axis, one, other)


def distance(area, kind, place, other):
    """How far two places are from each other."""
    _check_two(area, kind, place, other)
    return distance_of(area, kind, place, other)


def are_near(area, kind, place, other, d):
    """Whether two places are near each other for a distance."""
    _check_two(area, kind, place, other)
    check_distance(d)
    return is_near(area, kind, place, other, d)


def way(area, kind, place, name):
    """The way from a place to a cell, and whether it is had."""
    _check_cell(area, kind, place, name)
    return way_to(area, kind, place, name)


def has_near(area, kind, place, name, d):
    """Whether some place of a cell is near a place."""
    _check_cell(area, kind, place, name)
    check_distance(d)
    return reaches_cell(area, kind, place, name, d)


def is_kind(value):
    """Whether a value is one of the two kinds of distances."""
    return isinstance(value, str) and value in KINDS


def check_kind(kind):
    """Raise the error of a value that is no kind."""
    if not is_kind(kind):
        raise InvalidKind(kind)


def check_distance(d):
    """Raise the error of a value that is no distance to ask for."""
    if not is_above_0(d):
        raise InvalidDistance(d)


def distance_of(area, kind, place, other):
    """The distance of what are known to be places."""
    gaps = [_gap_on(area, axis, one, two) for axis, one, two in zip(AXES, place, other)]
    return joined(kind, gaps)


def is_near(area, kind, place, other, d):
    """Whether two places are near each other, for values that are known to be right."""
    return not as_ratio(d).is_below(distance_of(area, kind, place, other))


def way_to(area, kind, place, name):
    """The way, for values that are known to be right."""
    borders = borders_of(area, name)
    east, north = [_way_on(area, axis, one, ends) for axis, one, ends in zip(AXES, place, borders)]
    if kind == "box" and east[0] != north[0]:
        # Nearer places of the cell on the other axis are there, whatever its own way is.
        if east[0].is_below(north[0]):
            return north
        return east
    return joined(kind, [east[0], north[0]]), east[1] and north[1]


def reaches_cell(area, kind, place, name, d):
    """Whether some place of the cell is near, for values that are known to be right."""
    length, is_had = way_to(area, kind, place, name)
    return length.is_below(d) or (is_had and length == as_ratio(d))


def joined(kind, gaps):
    """The distance that the gaps of both axes make."""
    east, north = gaps
    if kind == "sum":
        return east + north
    return greater(east, north)


def _gap_on(area, axis, one, other):
    """The gap of what are known to be numbers on the axis."""
    between = as_ratio(one) - other
    if between.sign == -1:
        between = -between
    if area.is_closed(axis):
        return smaller(between, area.length(axis) - between)
    return between


def _way_on(area, axis, number, ends):
    """The way on one axis to what stands between two ends, and whether it is had."""
    lower, upper = ends
    ahead = lower - number
    behind = as_ratio(number) - upper
    if ahead.sign != 1 and behind.sign == -1:
        return Ratio(0), True
    if area.is_closed(axis):
        ahead = _around(ahead, area.length(axis))
        behind = _around(behind, area.length(axis))
    # The upper end does not belong to the cell: only the lower one can be come to.
    if ahead.sign == -1 or behind.sign != -1 and behind.is_below(ahead):
        return behind, False
    return ahead, True


def _around(number, length):
    """How far one goes in a direction, on a closed axis through its end if the goal lies in the other direction."""
    if number.sign == -1:
        return number + length
    return number


def _check_two(area, kind, place, other):
    """Raise the first error of a map, a kind and two places."""
    check_area(area)
    check_kind(kind)
    check_place(area, place)
    check_place(area, other)


def _check_cell(area, kind, place, name):
    """Raise the first error of a map, a kind, a place and a name."""
    check_area(area)
    check_kind(kind)
    check_place(area, place)
    check_name(area.plan, name)
