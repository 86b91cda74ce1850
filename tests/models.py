"""What the document says, reckoned in other ways than the package does: by fractions, cut by cut, point by point."""

import itertools
from fractions import Fraction

from movecells.maps import Map
from movecells.plans import Plan
from movecells.ratios import Ratio

E2, E3, E4 = ("east", 2), ("east", 3), ("east", 4)
N2, N3, N4 = ("north", 2), ("north", 3), ("north", 4)

# Plans of one to three rounds; some rounds cut one axis alone.
ROUNDS = [
    [[E2, N2]],
    [[N3, E3]],
    [[E2, N2, N2, E2]],
    [[E2], [N2]],
    [[N4], [E2, E2]],
    [[E2, N3, E2], [E3, N2, N2]],
    [[E2, N2, E2, N2, E2], [N2, E2, N2, E2, N2]],
    [[N3], [E3, E2], [N2]],
]
LENGTHS = [(8, 4), (Fraction(7, 3), 5), (Fraction(1, 10 ** 40), 10 ** 40 + 1)]
CLOSED = [(), ("east",), ("north",), ("east", "north")]
MOVES = list(itertools.product((-1, 0, 1), repeat=2))


def fraction(number):
    """A NUMBER as a Fraction."""
    if isinstance(number, Ratio):
        return Fraction(number.top, number.bottom)
    return Fraction(number)


def ratio(number):
    """A Fraction as a Ratio."""
    return Ratio(Fraction(number).numerator, Fraction(number).denominator)


def ratios(numbers):
    return tuple(ratio(number) for number in numbers)


def map_of(rounds, lengths=(8, 4), closed=()):
    return Map(Plan(*rounds), *ratios(lengths), closed=closed)


def sample_maps(rounds=ROUNDS, lengths=LENGTHS[:2]):
    """Maps of all these plans and lengths, with each choice of closed axes."""
    return [map_of(*parts) for parts in itertools.product(rounds, lengths, CLOSED)]


def round_at(plan, at):
    """The cuts of the round that stands at a position of names."""
    rounds = plan.rounds()
    return rounds[at % len(rounds)]


def parts_of(cuts):
    """The columns and the rows of a round."""
    worths = {"east": 1, "north": 1}
    for axis, parts in cuts:
        worths[axis] *= parts
    return worths["east"], worths["north"]


def place_of(cuts, sign):
    """The column and the row of a sign, by the numbers of its parts."""
    numbers = []
    for _, parts in reversed(cuts):
        sign, number = divmod(sign, parts)
        numbers.insert(0, number)
    worths = {"east": 0, "north": 0}
    for (axis, parts), number in zip(cuts, numbers):
        worths[axis] = worths[axis] * parts + number
    return worths["east"], worths["north"]


def signs_of(cuts):
    columns, rows = parts_of(cuts)
    return columns * rows


def sign_at(cuts, pair):
    return [place_of(cuts, sign) for sign in range(signs_of(cuts))].index(tuple(pair))


def counts(plan, f):
    """The columns and the rows of a fineness."""
    columns = rows = 1
    for at in range(f):
        many_columns, many_rows = parts_of(round_at(plan, at))
        columns, rows = columns * many_columns, rows * many_rows
    return columns, rows


def pair_of(plan, name):
    x = y = 0
    for at, sign in enumerate(name):
        (columns, rows), (column, row) = parts_of(round_at(plan, at)), place_of(round_at(plan, at), sign)
        x, y = x * columns + column, y * rows + row
    return x, y


def all_names(plan, f):
    """All names of a fineness, as Python sorts tuples."""
    return list(itertools.product(*[range(signs_of(round_at(plan, at))) for at in range(f)]))


def some(values, many):
    """About so many of the values, from the first one to the last."""
    values = list(values)
    return values[::max(1, len(values) // many)][:many] + values[-1:]


def lengths_of(area):
    return fraction(area.east), fraction(area.north)


def sides(area, f):
    return tuple(length / many for length, many in zip(lengths_of(area), counts(area.plan, f)))


def borders(area, name):
    """The extent of a cell: cut by cut, each part of a cut is taken out of what is left."""
    ends = {"east": (Fraction(0), lengths_of(area)[0]), "north": (Fraction(0), lengths_of(area)[1])}
    for at, sign in enumerate(name):
        cuts = round_at(area.plan, at)
        numbers = []
        for _, parts in reversed(cuts):
            sign, number = divmod(sign, parts)
            numbers.insert(0, number)
        for (axis, parts), number in zip(cuts, numbers):
            lower, upper = ends[axis]
            part = (upper - lower) / parts
            ends[axis] = (lower + part * number, lower + part * (number + 1))
    return ends["east"], ends["north"]


def name_at(area, place, f):
    """The name of a place: at each cut the part is taken in which it lies."""
    ends = {"east": (Fraction(0), lengths_of(area)[0]), "north": (Fraction(0), lengths_of(area)[1])}
    numbers = dict(zip(("east", "north"), map(fraction, place)))
    name = []
    for at in range(f):
        sign = 0
        for axis, parts in round_at(area.plan, at):
            lower, upper = ends[axis]
            part = (upper - lower) / parts
            number = [k for k in range(parts) if lower + part * k <= numbers[axis] < lower + part * (k + 1)][0]
            ends[axis] = (lower + part * number, lower + part * (number + 1))
            sign = sign * parts + number
        name.append(sign)
    return tuple(name)


def gap(area, axis, one, other):
    between = abs(fraction(one) - fraction(other))
    if axis in area.closed:
        return min(between, fraction(area.length(axis)) - between)
    return between


def distance(area, kind, place, other):
    gaps = [gap(area, axis, one, two) for axis, one, two in zip(("east", "north"), place, other)]
    return max(gaps) if kind == "box" else sum(gaps)


def way_on(area, axis, number, ends):
    """The way on one axis: the least one to the cell itself and, on a closed axis, to it one length further."""
    length = fraction(area.length(axis))
    found = []
    for turn in (-1, 0, 1) if axis in area.closed else (0,):
        lower, upper = ends[0] + turn * length, ends[1] + turn * length
        if number < lower:
            found.append((lower - number, 0))
        elif number < upper:
            found.append((Fraction(0), 0))
        else:
            found.append((number - upper, 1))
    worth, is_not_had = min(found)
    return worth, is_not_had == 0


def way(area, kind, place, name):
    both = [
        way_on(area, axis, fraction(number), ends)
        for axis, number, ends in zip(("east", "north"), place, borders(area, name))
    ]
    if kind == "sum":
        return both[0][0] + both[1][0], both[0][1] and both[1][1]
    worth = max(both)[0]
    return worth, all(had for one, had in both if one == worth)


def neighbour_pair(area, name, move):
    """The number pair of the neighbour, or None."""
    goal = []
    for axis, number, many, count in zip(("east", "north"), pair_of(area.plan, name), move, counts(area.plan, len(name))):
        number += many
        if axis in area.closed:
            number %= count
        elif not 0 <= number < count:
            return None
        goal.append(number)
    return tuple(goal)


def neighbour(area, name, move):
    """The neighbour by number pairs, or None."""
    goal = neighbour_pair(area, name, move)
    if goal is None:
        return None
    for other in all_names(area.plan, len(name)):
        if pair_of(area.plan, other) == goal:
            return other
    raise AssertionError("no name has the pair")


def corners(area, f):
    """Places at a corner of the map, on borders of cells and close beside them, within cells, and close to the end."""
    close = Fraction(1, 10 ** 50)
    found = []
    for length, side in zip(lengths_of(area), sides(area, f)):
        small = length * close
        found.append([Fraction(0), small, side / 3, side - small, side % length, length / 2, length - side, length - small])
    return [tuple(ratios(place)) for place in itertools.product(*found)]
