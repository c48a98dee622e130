"""What counts as an integer and as an old name."""

import unittest

from fewnames.base.values import check_between, check_member, is_integer, is_member, is_old_name
from fewnames.errors import InvalidNumber
from tests.samples import LONGEST, TOO_LONG, odd_values


class ValuesTest(unittest.TestCase):
    def test_integers_have_at_most_sixty_digits(self):
        for value in (0, 1, -1, LONGEST, -LONGEST):
            self.assertIs(is_integer(value), True)
        for value in (TOO_LONG, -TOO_LONG, 10 ** 99):
            self.assertIs(is_integer(value), False)

    def test_other_values_are_no_integers(self):
        for value in odd_values():
            self.assertIs(is_integer(value), False)
            self.assertIs(is_old_name(value), False)
            self.assertIs(is_member(value, (0, 1)), False)

    def test_old_names_are_not_negative(self):
        self.assertIs(is_old_name(0), True)
        self.assertIs(is_old_name(LONGEST), True)
        self.assertIs(is_old_name(-1), False)

    def test_members(self):
        self.assertIs(is_member(1, (0, 1)), True)
        self.assertIs(is_member(2, (0, 1)), False)
        check_member(1, (0, 1))
        for value in odd_values() + [2, -1]:
            with self.assertRaises(InvalidNumber) as caught:
                check_member(value, (0, 1))
            self.assertIs(caught.exception.given, value)

    def test_bounds_are_let(self):
        for value in (2, 3, 4):
            check_between(value, 2, 4)
        for value in odd_values() + [1, 5, -2]:
            with self.assertRaises(InvalidNumber) as caught:
                check_between(value, 2, 4)
            self.assertIs(caught.exception.given, value)


if __name__ == "__main__":
    unittest.main()
