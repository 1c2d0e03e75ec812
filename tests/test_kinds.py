"""The kinds [21]."""

import unittest

from pupilpairs.kinds import is_files, is_index, is_integer, is_rows
from tests.helpers import any_values

INTEGERS = [-10 ** 40, -2 ** 64, -3, -2, -1, 0, 1, 2, 3, 4, 5, 400, 401, 2 ** 64, 10 ** 40 - 1, 10 ** 400]


class KindsTest(unittest.TestCase):
    def test_integers(self):
        for number in INTEGERS:
            self.assertIs(is_integer(number), True, number)

    def test_files(self):
        self.assertEqual([number for number in INTEGERS if is_files(number)], [2, 3])

    def test_rows(self):
        expected = [number for number in INTEGERS if number >= 1]
        self.assertEqual([number for number in INTEGERS if is_rows(number)], expected)

    def test_index(self):
        for many in (0, 1, 2, 5, 10 ** 40):
            for number in INTEGERS:
                self.assertIs(is_index(number, many), 0 <= number < many, (number, many))

    def test_truths_are_told(self):
        for number in INTEGERS:
            for told in (is_integer(number), is_files(number), is_rows(number), is_index(number, 3)):
                self.assertIn(told, (True, False))
                self.assertIsInstance(told, bool)

    def test_any_other_value_is_none_of_them(self):
        for value in any_values() + ["2", "1", (2,), [2], {2: 2}, (1, 2)]:
            self.assertIs(is_integer(value), False)
            self.assertIs(is_files(value), False)
            self.assertIs(is_rows(value), False)
            for many in (0, 1, 2, 10 ** 40):
                self.assertIs(is_index(value, many), False)


if __name__ == "__main__":
    unittest.main()
