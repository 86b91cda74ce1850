"""movecells/ratios.py: Ratio, and all numbers computed exactly [2], [11]."""

import inspect
import unittest
from fractions import Fraction

from movecells.errors import DividedByZero, InvalidNumber, InvalidText
from movecells.ratios import Ratio
from tests.support import Alike, Checks, no_integers, odd_values

GREAT = 123456789012345678901234567890123456789012345678901234567891
GREATER = 987654321098765432109876543210987654321098765432109876543211


def some_fractions():
    """Fractions below 0, 0, above it, whole ones, and great ones."""
    small = [Fraction(top, bottom) for top in range(-7, 8) for bottom in range(1, 6)]
    return small + [Fraction(GREAT), Fraction(-GREAT, GREATER), Fraction(GREATER, GREAT), Fraction(1, GREATER)]


def as_ratio(fraction):
    return Ratio(fraction.numerator, fraction.denominator)


class RatioCase(Checks, unittest.TestCase):
    def is_ratio(self, told, fraction):
        """What was told is this number, a Ratio in lowest terms."""
        self.assertIs(told.__class__, Ratio)
        self.is_integer(told.top, fraction.numerator)
        self.is_integer(told.bottom, fraction.denominator)


class TestConstructor(RatioCase):
    def test_lowest_terms_and_bottoms_below_0(self):
        for top in range(-12, 13):
            for bottom in [k for k in range(-12, 13) if k != 0]:
                self.is_ratio(Ratio(top, bottom), Fraction(top, bottom))

    def test_0_as_top(self):
        for bottom in (1, -1, 6, -6, GREAT):
            self.is_ratio(Ratio(0, bottom), Fraction(0))

    def test_without_a_bottom(self):
        self.is_ratio(Ratio(5), Fraction(5))
        self.is_ratio(Ratio(-5), Fraction(-5))

    def test_by_names(self):
        self.is_ratio(Ratio(bottom=4, top=6), Fraction(3, 2))
        self.is_ratio(Ratio(top=-3), Fraction(-3))
        self.has_parameters(Ratio, "top", "bottom")

    def test_great_integers(self):
        self.is_ratio(Ratio(GREAT * 6, GREAT * -4), Fraction(-3, 2))
        self.is_ratio(Ratio(GREAT, GREATER), Fraction(GREAT, GREATER))

    def test_integers_of_other_classes_become_plain(self):
        class Whole(int):
            pass
        self.is_ratio(Ratio(Whole(6), Whole(4)), Fraction(3, 2))
        self.is_ratio(Ratio(Whole(5)), Fraction(5))

    def test_no_integers(self):
        for value in no_integers():
            self.fails(InvalidNumber, [value], Ratio, value)
            self.fails(InvalidNumber, [value], Ratio, 1, value)
            self.fails(InvalidNumber, [value], Ratio, value, 0)
            self.fails(InvalidNumber, [value], Ratio, value, None)
        self.fails(InvalidNumber, [0], Ratio, 1, 0)
        self.fails(InvalidNumber, [0], Ratio, 0, 0)
        self.fails(InvalidNumber, [0], Ratio, top=1, bottom=0)

    def test_properties_cannot_be_assigned(self):
        number = Ratio(1, 2)
        for name in ("top", "bottom", "sign"):
            with self.assertRaises(AttributeError):
                setattr(number, name, 3)
        self.is_ratio(number, Fraction(1, 2))

    def test_everything_listed_stands_in_the_class(self):
        names = "top bottom sign __add__ __radd__ __sub__ __rsub__ __mul__ __rmul__ __neg__ over is_below floor read"
        for name in (names + " __eq__ __str__ __repr__").split():
            self.assertIn(name, vars(Ratio))
        self.assertIsInstance(vars(Ratio)["read"], staticmethod)
        for name in ("top", "bottom", "sign"):
            self.assertIsInstance(vars(Ratio)[name], property)
        self.assertEqual(Ratio.__module__, "movecells.ratios")


class TestReckoning(RatioCase):
    def test_two_ratios(self):
        for one in some_fractions():
            for other in some_fractions():
                self.is_ratio(as_ratio(one) + as_ratio(other), one + other)
                self.is_ratio(as_ratio(one) - as_ratio(other), one - other)
                self.is_ratio(as_ratio(one) * as_ratio(other), one * other)
                self.assertIs(as_ratio(one).is_below(as_ratio(other)), one < other)
                if other != 0:
                    self.is_ratio(as_ratio(one).over(as_ratio(other)), one / other)

    def test_integers_on_both_sides(self):
        for one in some_fractions():
            for whole in (-3, -1, 0, 1, 4, GREAT):
                self.is_ratio(as_ratio(one) + whole, one + whole)
                self.is_ratio(as_ratio(one) - whole, one - whole)
                self.is_ratio(as_ratio(one) * whole, one * whole)
                self.is_ratio(whole + as_ratio(one), whole + one)
                self.is_ratio(whole - as_ratio(one), whole - one)
                self.is_ratio(whole * as_ratio(one), whole * one)
                self.assertIs(as_ratio(one).is_below(whole), one < whole)
                if whole != 0:
                    self.is_ratio(as_ratio(one).over(whole), one / whole)

    def test_one_number(self):
        for one in some_fractions():
            self.is_ratio(-as_ratio(one), -one)
            self.is_integer(as_ratio(one).sign, (one > 0) - (one < 0))
            self.is_integer(as_ratio(one).floor(), one.numerator // one.denominator)

    def test_floor_below_0(self):
        told = [Ratio(top, 2).floor() for top in (-4, -3, -2, -1, 0, 1, 2, 3)]
        self.assertEqual(told, [-2, -2, -1, -1, 0, 0, 1, 1])

    def test_numbers_stay_as_they_are(self):
        one = Ratio(1, 2)
        other = Ratio(1, 3)
        same = one
        one += other
        self.is_ratio(one, Fraction(5, 6))
        self.is_ratio(same, Fraction(1, 2))
        _ = (same - other, same * other, -same, same.over(other), same.is_below(other), same.floor())
        self.is_ratio(same, Fraction(1, 2))
        self.is_ratio(other, Fraction(1, 3))

    def test_by_names(self):
        self.is_ratio(Ratio(1, 2).over(other=3), Fraction(1, 6))
        self.assertIs(Ratio(1, 2).is_below(other=1), True)
        self.has_parameters(Ratio(1).over, "other")
        self.has_parameters(Ratio(1).is_below, "other")
        self.has_parameters(Ratio(1).floor)

    def test_no_numbers(self):
        for one in (Ratio(1, 2), Ratio(0), Ratio(-3)):
            for value in odd_values():
                self.fails(InvalidNumber, [value], lambda: one + value)
                self.fails(InvalidNumber, [value], lambda: one - value)
                self.fails(InvalidNumber, [value], lambda: one * value)
                self.fails(InvalidNumber, [value], one.over, value)
                self.fails(InvalidNumber, [value], one.is_below, value)

    def test_bools_on_the_left_are_no_integers(self):
        for value in (True, False):
            for action in (lambda: value + Ratio(1), lambda: value - Ratio(1), lambda: value * Ratio(1)):
                self.assertRaises((InvalidNumber, TypeError), action)

    def test_divided_by_0(self):
        for one in (Ratio(1, 2), Ratio(0), Ratio(-3)):
            for zero in (0, Ratio(0), Ratio(0, -5)):
                self.fails(DividedByZero, [], one.over, zero)


class TestEqual(RatioCase):
    def test_equal(self):
        for one in some_fractions():
            for other in some_fractions():
                self.assertIs(as_ratio(one) == as_ratio(other), one == other)
                self.assertIs(as_ratio(one) != as_ratio(other), one != other)
        self.assertTrue(Ratio(2, 4) == Ratio(-1, -2))

    def test_equal_to_no_other_kind(self):
        for number, values in ((Ratio(1), [1, "1", Fraction(1)]), (Ratio(0), [0, "0"]), (Ratio(1, 2), ["1/2", (1, 2)])):
            for value in values + odd_values():
                self.assertIs(number == value, False)
                self.assertIs(number != value, True)
                if not isinstance(value, Alike):
                    self.assertIs(value == number, False)


class TestTexts(RatioCase):
    def test_str_and_repr(self):
        self.assertEqual([str(Ratio(6, 4)), str(Ratio(-6, 4)), str(Ratio(4, 2)), str(Ratio(0, 3))], ["3/2", "-3/2", "2", "0"])
        self.assertEqual(repr(Ratio(1, 2)), "Ratio(1, 2)")
        self.assertEqual(repr(Ratio(3)), "Ratio(3, 1)")
        self.assertEqual(repr(Ratio(5, -10)), "Ratio(-1, 2)")

    def test_each_told_text_is_read(self):
        for one in some_fractions():
            self.assertEqual(str(as_ratio(one)), str(one))
            self.assertEqual(repr(as_ratio(one)), f"Ratio({one.numerator}, {one.denominator})")
            self.is_ratio(Ratio.read(str(as_ratio(one))), one)
            self.is_ratio(Ratio(1).read(text=str(one)), one)
        for long in (10 ** 999 + 7, 10 ** 4000 - 1):
            self.is_ratio(Ratio.read(str(Ratio(-long, long - 1))), Fraction(-long, long - 1))

    def test_a_text_is_read_exactly_if_it_is_told(self):
        signs = "-01/ +"
        texts = [""]
        for _ in range(5):
            texts = texts + [text + sign for text in texts if len(text) == len(texts[-1]) for sign in signs]
        told = {str(Ratio(top, bottom)) for top in range(-12000, 12000) for bottom in (1, 10, 11)}
        told = told | {str(Ratio(top, bottom)) for top in range(-111, 112) for bottom in range(1, 1200)}
        told = {text for text in told if len(text) <= 5}
        self.assertGreater(len(texts), 9000)
        for text in texts:
            if text in told:
                self.assertEqual(str(Ratio.read(text)), text)
            else:
                self.fails(InvalidText, [1], Ratio.read, text)

    def test_texts_that_are_never_told(self):
        for text in (
            "2/4", "3/1", "-0", "+1", "01", " 1", "1 ", "1/-2", "1/0", "", "-", "/", "1/", "/2", "-/2", "--1", "1//2",
            "1/2/3", "1/2/", "0/1", "0/2", "0/0", "-0/3", "00", "-01", "1/02", "1/+2", "1 /2", "1/ 2", "1\n", "\n1",
            "1_000", "1e3", "1.0", "0x1", "a", "1a", "Ratio(1, 2)", "4/2", "-2/4", "10/5", "1/00", "-1/-2", "+1/2",
            "\u0661", "\u00b2", "1/\u0662", "0" * 5000, "-" + "0" * 5000, "1/" + "0" * 5000, "-" * 5000,
        ):
            self.fails(InvalidText, [1], Ratio.read, text)

    def test_more_digits_than_python_reads(self):
        for text in ("1" * 5000, "-" + "1" * 20000, "1/" + "3" * 5000):
            self.fails(InvalidText, [1], Ratio.read, text)

    def test_no_texts(self):
        for value in no_integers() + [0, 1, 5]:
            if not isinstance(value, str) or value not in ("0", "1"):
                self.fails(InvalidText, [1], Ratio.read, value)

    def test_parameters(self):
        self.assertEqual(list(inspect.signature(Ratio.read).parameters), ["text"])


if __name__ == "__main__":
    unittest.main()
