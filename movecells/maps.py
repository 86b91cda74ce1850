"""Maps: a plan, two lengths, and axes that are open or closed."""

from movecells.checks import check_fineness, is_list
from movecells.errors import InvalidAxis, InvalidClosed, InvalidLength, InvalidMap
from movecells.plans import AXES, check_plan, counts_at, is_axis
from movecells.ratios import as_ratio, is_above_0


class Map:
    """What a plan cuts into cells."""

    def __init__(self, plan, east, north, *, closed=()):
        check_plan(plan)
        for length in (east, north):
            if not is_above_0(length):
                raise InvalidLength(length)
        if not _are_closed(closed):
            raise InvalidClosed(closed)
        self._plan = plan
        self._east = as_ratio(east)
        self._north = as_ratio(north)
        self._closed = tuple([axis for axis in AXES if axis in closed])

    @property
    def plan(self):
        """The plan."""
        return self._plan

    @property
    def east(self):
        """The length of the axis east."""
        return self._east

    @property
    def north(self):
        """The length of the axis north."""
        return self._north

    @property
    def closed(self):
        """The sorted tuple of the closed axes."""
        return self._closed

    def is_closed(self, axis):
        """Whether the end of an axis is its beginning."""
        check_axis(axis)
        return axis in self._closed

    def length(self, axis):
        """The length of an axis."""
        check_axis(axis)
        return (self._east, self._north)[AXES.index(axis)]

    def sides(self, f):
        """How long the cells of a fineness are on both axes."""
        check_fineness(f)
        return sides_at(self, f)

    def __mul__(self, other):
        if not is_above_0(other):
            raise InvalidLength(other)
        return Map(self._plan, self._east * other, self._north * other, closed=self._closed)

    def __rmul__(self, other):
        return self * other

    def turned(self):
        """The map with the axes exchanged."""
        closed = [AXES[1 - AXES.index(axis)] for axis in self._closed]
        return Map(self._plan.turned(), self._north, self._east, closed=closed)

    def __eq__(self, other):
        if not isinstance(other, Map) or self._plan != other._plan:
            return False
        return self._east == other._east and self._north == other._north and self._closed == other._closed

    def __repr__(self):
        return f"Map({repr(self._plan)}, {repr(self._east)}, {repr(self._north)}, closed={repr(self._closed)})"


def check_area(area):
    """Raise the error of a value that is no map."""
    if not isinstance(area, Map):
        raise InvalidMap(area)


def check_axis(axis):
    """Raise the error of a value that is no axis."""
    if not is_axis(axis):
        raise InvalidAxis(axis)


def sides_at(area, f):
    """The sides of a fineness, which may be above the greatest one that can be passed."""
    columns, rows = counts_at(area.plan, f)
    return area.east.over(columns), area.north.over(rows)


def _are_closed(value):
    """Whether a value is a list of axes, each at most once."""
    if not is_list(value) or not all([is_axis(axis) for axis in value]):
        return False
    return len(value) == len([axis for axis in AXES if axis in value])
