"""Places of a map, and the cells in which they lie."""

from movecells.checks import check_fineness, is_tuple_of
from movecells.errors import InvalidPlace
from movecells.maps import check_area, sides_at
from movecells.names import check_name, name_with, pair_of
from movecells.plans import counts_at
from movecells.ratios import as_ratio, is_number, is_on


def is_place(area, value):
    """Whether any value is a place of the map."""
    check_area(area)
    if not is_tuple_of(value, 2):
        return False
    east, north = value
    return is_on(east, area.east) and is_on(north, area.north)


def name_at(area, place, f):
    """The name of the cell of a fineness in which a place lies."""
    check_area(area)
    check_place(area, place)
    check_fineness(f)
    return name_with(area.plan, f, pair_at(area, place, f))


def extent(area, name):
    """The lower and the upper border of a cell, to the east and to the north."""
    check_area(area)
    check_name(area.plan, name)
    return borders_of(area, name)


def is_in(area, place, name):
    """Whether a place lies in a cell."""
    check_area(area)
    check_place(area, place)
    check_name(area.plan, name)
    return pair_at(area, place, len(name)) == pair_of(area.plan, name)


def gone_round(area, east, north):
    """The place with two numbers, which go round on closed axes."""
    check_area(area)
    if not (is_number(east) and is_number(north)):
        raise InvalidPlace((east, north))
    place = (
        _brought_back(east, area.east, area.is_closed("east")),
        _brought_back(north, area.north, area.is_closed("north")),
    )
    if not is_place(area, place):
        raise InvalidPlace((east, north))
    return place


def next_sign(area, place, f):
    """The sign at the position f in the longer names of a place."""
    check_area(area)
    check_place(area, place)
    check_fineness(f)
    return sign_behind(area, place, f)


def check_place(area, place):
    """Raise the error of a value that is no place of the map."""
    if not is_place(area, place):
        raise InvalidPlace(place)


def pair_at(area, place, f):
    """The number pair of the cell of a fineness in which a right place lies."""
    columns, rows = counts_at(area.plan, f)
    east, north = place
    return _part_at(east, area.east, columns), _part_at(north, area.north, rows)


def sign_behind(area, place, f):
    """The next sign of a right place, also at the greatest fineness that can be passed."""
    phase = f % len(area.plan)
    columns, rows = area.plan.parts(phase)
    x, y = pair_at(area, place, f + 1)
    return area.plan.sign_at(phase, (x % columns, y % rows))


def borders_of(area, name):
    """The extent of what is known to be a name."""
    x, y = pair_of(area.plan, name)
    east, north = sides_at(area, len(name))
    return (east * x, east * (x + 1)), (north * y, north * (y + 1))


def _part_at(number, length, many):
    """In which one of so many equal parts of a length a number lies."""
    return (as_ratio(number) * many).over(length).floor()


def _brought_back(number, length, is_closed):
    """The number, on a closed axis without whole lengths."""
    ratio = as_ratio(number)
    if not is_closed:
        return ratio
    return ratio - length * ratio.over(length).floor()
