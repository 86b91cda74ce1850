"""Checks of plain values that all other files share."""

from movecells.errors import InvalidNumber, TooMany

MOST_FINENESS = 1000
MOST_LETTERS = 8


def is_int(value):
    """Whether a value is an INTEGER: True and False are none."""
    return isinstance(value, int) and not isinstance(value, bool)


def is_count(value):
    """Whether a value is an INTEGER that is at least 0."""
    return is_int(value) and value >= 0


def is_count_below(value, bound):
    """Whether a value is a COUNT that is less than the bound."""
    return is_count(value) and value < bound


def is_list(value):
    """Whether a value is accepted as a list."""
    return isinstance(value, (list, tuple))


def is_tuple_of(value, many):
    """Whether a value is a tuple with so many items."""
    return isinstance(value, tuple) and len(value) == many


def is_word(value):
    """Whether a value is a WORD: one to eight letters from a to z."""
    if not isinstance(value, str) or not 1 <= len(value) <= MOST_LETTERS:
        return False
    return value.isascii() and value.isalpha() and value.islower()


def check_fineness(f):
    """Raise the error of a parameter f that is no fineness."""
    if not is_count(f):
        raise InvalidNumber(f)
    if f > MOST_FINENESS:
        raise TooMany("signs", MOST_FINENESS)
