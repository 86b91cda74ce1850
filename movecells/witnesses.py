"""Places that show what names tell: places in a cell with a next sign, and near places in two cells."""

from movecells.gaps import joined
from movecells.gauges import greatest_at
from movecells.places import borders_of, gone_round
from movecells.ratios import Ratio, smaller


def place_with(area, name, sign):
    """The place at the lower borders of the part of a cell that a next sign tells."""
    (east, _), (north, _) = borders_of(area, name + (sign,))
    return east, north


def near_places(gauge, name, sign, shift):
    """A place with the name and the next sign, a near place in the neighbour, and the greatest distance for it.

    The move to the neighbour is reached with the next sign, and there is a neighbour.
    """
    cells = borders_of(gauge.area, name)
    parts = borders_of(gauge.area, name + (sign,))
    d = greatest_at(gauge, len(name))
    least = joined(gauge.kind, [_least(many, cell, part) for many, cell, part in zip(shift, cells, parts)])
    # Both places keep a little off the borders that they do not have: half of what is left for both axes together.
    little = (d - least).over(2)
    for lower, upper in parts:
        little = smaller(little, upper - lower)
    east, north = [_numbers(many, cell, part, little) for many, cell, part in zip(shift, cells, parts)]
    return (east[0], north[0]), gone_round(gauge.area, east[1], north[1]), d


def _least(many, cell, part):
    """The least gap from a part of a cell to the cell beside it on one axis."""
    if many == 0:
        return Ratio(0)
    if many == 1:
        return cell[1] - part[1]
    return part[0] - cell[0]


def _numbers(many, cell, part, little):
    """A number in the part of a cell, and one beside it, as near as can be but for a little."""
    if many == 0:
        return part[0], part[0]
    if many == 1:
        return part[1] - little, cell[1]
    return part[0], cell[0] - little
