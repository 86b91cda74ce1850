"""Names: rows of signs that tell a cell, and its number pair."""

from movecells.checks import check_fineness, is_count_below
from movecells.errors import InvalidName, InvalidNumber, InvalidSign
from movecells.plans import check_pair, check_plan, counts_at


def is_name(plan, value):
    """Whether any value is a name of the plan."""
    check_plan(plan)
    if not isinstance(value, tuple):
        return False
    return all([is_count_below(sign, signs_at(plan, at)) for at, sign in enumerate(value)])


def cell(plan, name):
    """The number pair of a name."""
    check_plan(plan)
    check_name(plan, name)
    return pair_of(plan, name)


def name_of(plan, f, pair):
    """The name of a fineness that has a number pair."""
    check_plan(plan)
    check_fineness(f)
    check_pair(pair, counts_at(plan, f))
    return name_with(plan, f, pair)


def begins_with(plan, name, other):
    """Whether the other name begins the name."""
    _check_two(plan, name, other)
    return name[:len(other)] == other


def common(plan, name, other):
    """The longest name that begins both."""
    _check_two(plan, name, other)
    many = 0
    while many < min(len(name), len(other)) and name[many] == other[many]:
        many = many + 1
    return name[:many]


def children(plan, name):
    """The names with one sign more, by this sign."""
    check_plan(plan)
    check_name(plan, name)
    return [name + (sign,) for sign in range(signs_at(plan, len(name)))]


def names(plan, f):
    """Yield all names of a fineness, as Python sorts tuples."""
    check_plan(plan)
    check_fineness(f)
    name = (0,) * f
    while name is not None:
        yield name
        name = _name_behind(plan, name)


class Cursor:
    """A name that can be changed."""

    def __init__(self, plan, name=()):
        check_plan(plan)
        check_name(plan, name)
        self._plan = plan
        self._name = tuple(name)

    @property
    def plan(self):
        """The plan of the name."""
        return self._plan

    @property
    def name(self):
        """The name as it is now."""
        return self._name

    @name.setter
    def name(self, value):
        check_name(self._plan, value)
        self._name = tuple(value)

    def put(self, name):
        """Take another name."""
        check_name(self._plan, name)
        self._name = tuple(name)

    def __len__(self):
        return len(self._name)

    def __getitem__(self, at):
        _check_position(at, self._name)
        return self._name[at]

    def __setitem__(self, at, worth):
        _check_position(at, self._name)
        _check_sign_at(self._plan, at, worth)
        self._name = self._name[:at] + (worth,) + self._name[at + 1:]

    def __iter__(self):
        raise TypeError("a cursor is not iterated over: take its name")

    def __iadd__(self, other):
        _check_sign_at(self._plan, len(self._name), other)
        self._name = self._name + (other,)
        return self

    def __isub__(self, other):
        if not is_count_below(other, len(self._name) + 1):
            raise InvalidNumber(other)
        self._name = self._name[:len(self._name) - other]
        return self

    @property
    def pair(self):
        """The number pair of the name."""
        return pair_of(self._plan, self._name)

    def copy(self):
        """A cursor with the same name that changes independently."""
        return Cursor(self._plan, self._name)

    def __eq__(self, other):
        return isinstance(other, Cursor) and self._plan == other._plan and self._name == other._name


def check_name(plan, name):
    """Raise the error of a value that is no name of the plan."""
    if not is_name(plan, name):
        raise InvalidName(name)


def signs_at(plan, at):
    """How many signs the round has that stands at a position of names."""
    return plan.signs(at % len(plan))


def pair_of(plan, name):
    """The number pair of what is known to be a name."""
    x = 0
    y = 0
    for at, sign in enumerate(name):
        phase = at % len(plan)
        columns, rows = plan.parts(phase)
        column, row = plan.place_of(phase, sign)
        x = x * columns + column
        y = y * rows + row
    return x, y


def name_with(plan, f, pair):
    """The name with what is known to be a number pair of the fineness."""
    x, y = pair
    signs = []
    for at in reversed(range(f)):
        phase = at % len(plan)
        columns, rows = plan.parts(phase)
        signs.append(plan.sign_at(phase, (x % columns, y % rows)))
        x = x // columns
        y = y // rows
    return tuple(signs[::-1])


def _check_two(plan, name, other):
    """Raise the first error of a plan and two of its names."""
    check_plan(plan)
    check_name(plan, name)
    check_name(plan, other)


def _check_position(at, name):
    """Raise the error of a value that is no position of the name."""
    if not is_count_below(at, len(name)):
        raise InvalidNumber(at)


def _check_sign_at(plan, at, sign):
    """Raise the error of a value that is no sign of the round at a position."""
    if not is_count_below(sign, signs_at(plan, at)):
        raise InvalidSign(sign)


def _name_behind(plan, name):
    """The next name of the fineness, or None behind the last one."""
    for at in reversed(range(len(name))):
        if name[at] + 1 < signs_at(plan, at):
            return name[:at] + (name[at] + 1,) + (0,) * (len(name) - at - 1)
    return None
