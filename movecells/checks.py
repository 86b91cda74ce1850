"""Checks of plain integers that all other files share."""

from movecells.errors import InvalidNumber, TooMany

MOST_FINENESS = 1000


def is_int(value):
    """Whether a value is an INTEGER: True and False are none."""
    return isinstance(value, int) and not isinstance(value, bool)


def is_count(value):
    """Whether a value is an INTEGER that is at least 0."""
    return is_int(value) and value >= 0


def is_count_below(value, bound):
    """Whether a value is a COUNT that is less than the bound."""
    return is_count(value) and value < bound


def check_fineness(f):
    """Raise the error of a parameter f that is no fineness."""
    if not is_count(f):
        raise InvalidNumber(f)
    if f > MOST_FINENESS:
        raise TooMany("signs", MOST_FINENESS)
