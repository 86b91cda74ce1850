"""movecells/checks.py: what INTEGERS and COUNTS are, and the limit of a fineness."""

import unittest

from movecells.checks import check_fineness, is_count, is_count_below, is_int
from movecells.errors import InvalidNumber, TooMany
from tests.support import Checks, no_counts, no_integers


class TestChecks(Checks, unittest.TestCase):
    def test_integers(self):
        for value in (0, 1, -1, 10 ** 60, -(10 ** 60)):
            self.assertIs(is_int(value), True)
        for value in no_integers():
            self.assertIs(is_int(value), False)

    def test_counts(self):
        for value in (0, 1, 10 ** 60):
            self.assertIs(is_count(value), True)
        for value in no_counts():
            self.assertIs(is_count(value), False)
            self.assertIs(is_count_below(value, 5), False)
        self.assertEqual([is_count_below(value, 2) for value in (0, 1, 2, 3)], [True, True, False, False])

    def test_finenesses(self):
        for f in (0, 1, 999, 1000):
            check_fineness(f)
        for f in no_counts():
            self.fails(InvalidNumber, [f], check_fineness, f)
        for f in (1001, 10 ** 60):
            self.fails(TooMany, ["signs", 1000], check_fineness, f)


if __name__ == "__main__":
    unittest.main()
