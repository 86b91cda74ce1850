"""Exact numbers: fractions in lowest terms."""

from math import gcd

from movecells.checks import is_int
from movecells.errors import DividedByZero, InvalidNumber, InvalidText

# Python itself refuses to read a few more digits than these, with an error of its own.
MOST_DIGITS = 4000


class Ratio:
    """A fraction in lowest terms, its bottom at least 1."""

    def __init__(self, top, bottom=1):
        if not is_int(top):
            raise InvalidNumber(top)
        if not is_int(bottom) or bottom == 0:
            raise InvalidNumber(bottom)
        divisor = gcd(top, bottom)
        if bottom < 0:
            divisor = -divisor
        self._top = top // divisor
        self._bottom = bottom // divisor

    @staticmethod
    def read(text):
        """The number whose text this is."""
        if not isinstance(text, str):
            raise InvalidText(1)
        top, slash, bottom = text.partition("/")
        if not _is_digits(top.removeprefix("-")):
            raise InvalidText(1)
        number = Ratio(int(top), _bottom_of(slash, bottom))
        # Terms that are not the lowest ones, "-0" and the like are read, but never told.
        if str(number) != text:
            raise InvalidText(1)
        return number

    @property
    def top(self):
        """The number above the line, with the sign."""
        return self._top

    @property
    def bottom(self):
        """The number below the line, at least 1."""
        return self._bottom

    @property
    def sign(self):
        """-1, 0 or 1, for a number below 0, 0, or above it."""
        if self._top == 0:
            return 0
        if self._top < 0:
            return -1
        return 1

    def __add__(self, other):
        number = as_ratio(other)
        top = self._top * number.bottom + number.top * self._bottom
        return Ratio(top, self._bottom * number.bottom)

    def __radd__(self, other):
        return as_ratio(other) + self

    def __sub__(self, other):
        number = as_ratio(other)
        top = self._top * number.bottom - number.top * self._bottom
        return Ratio(top, self._bottom * number.bottom)

    def __rsub__(self, other):
        return as_ratio(other) - self

    def __mul__(self, other):
        number = as_ratio(other)
        return Ratio(self._top * number.top, self._bottom * number.bottom)

    def __rmul__(self, other):
        return as_ratio(other) * self

    def __neg__(self):
        return Ratio(-self._top, self._bottom)

    def over(self, other):
        """This number, divided by another one."""
        number = as_ratio(other)
        if number.sign == 0:
            raise DividedByZero()
        return Ratio(self._top * number.bottom, self._bottom * number.top)

    def is_below(self, other):
        """Whether this number is less than another one."""
        number = as_ratio(other)
        return self._top * number.bottom < number.top * self._bottom

    def floor(self):
        """The greatest integer that is not greater than this number."""
        return self._top // self._bottom

    def __eq__(self, other):
        return isinstance(other, Ratio) and self._top == other._top and self._bottom == other._bottom

    def __str__(self):
        if self._bottom == 1:
            return str(self._top)
        return f"{self._top}/{self._bottom}"

    def __repr__(self):
        return f"Ratio({self._top}, {self._bottom})"


def as_ratio(value):
    """A NUMBER as a Ratio; the error of Ratio for any other value."""
    if isinstance(value, Ratio):
        return value
    return Ratio(value)


def is_number(value):
    """Whether a value is a NUMBER."""
    return is_int(value) or isinstance(value, Ratio)


def number_of(text):
    """The number whose text this is, or None."""
    try:
        return Ratio.read(text)
    except InvalidText:
        return None


def is_above_0(value):
    """Whether a value is a NUMBER greater than 0."""
    return is_number(value) and as_ratio(value).sign == 1


def is_on(value, length):
    """Whether a value is a NUMBER from 0 to below a length."""
    if not is_number(value):
        return False
    number = as_ratio(value)
    return number.sign != -1 and number.is_below(length)


def smaller(one, other):
    """The smaller one of two Ratios."""
    if other.is_below(one):
        return other
    return one


def greater(one, other):
    """The greater one of two Ratios."""
    if one.is_below(other):
        return other
    return one


def _bottom_of(slash, text):
    """The bottom that the text behind a slash tells, 1 without a slash."""
    if slash == "":
        return 1
    if not _is_digits(text) or text == "0":
        raise InvalidText(1)
    return int(text)


def _is_digits(text):
    """Whether a text is that of a COUNT."""
    if not (text.isascii() and text.isdigit()) or len(text) > MOST_DIGITS:
        return False
    return text == "0" or not text.startswith("0")
