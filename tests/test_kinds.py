"""[21], [2]: what kind a value is."""

import unittest
from math import gcd

from hourneeds.kinds import are_counts, are_limits, is_count, is_fraction, is_hour, is_integer
from helpers import GREAT, nested, odd_values

COUNTS = [0, 1, 2, 47, 48, 10 ** 30, GREAT]
BELOW = [-1, -2, -48, -(10 ** 30), -GREAT]


class Numbers(unittest.TestCase):
    def test_integers(self):
        for number in COUNTS + BELOW:
            self.assertIs(is_integer(number), True, number)
        for value in odd_values():
            self.assertIs(is_integer(value), False, value)

    def test_counts(self):
        for number in COUNTS:
            self.assertIs(is_count(number), True, number)
        for value in BELOW + odd_values():
            self.assertIs(is_count(value), False, value)

    def test_hours(self):
        for hours in (1, 2, 3, 24, 48, GREAT):
            for number in COUNTS + BELOW + [hours - 1, hours, hours + 1, -hours]:
                self.assertIs(is_hour(hours, number), 0 <= number <= hours - 1, (hours, number))
            for value in odd_values():
                self.assertIs(is_hour(hours, value), False, (hours, value))


class Fractions(unittest.TestCase):
    def test_all_small_pairs(self):
        for above in range(-13, 14):
            for below in range(-13, 14):
                wanted = below > 0 and gcd(above, below) == 1
                self.assertIs(is_fraction((above, below)), wanted, (above, below))

    def test_nought_is_nought_over_one_alone(self):
        self.assertIs(is_fraction((0, 1)), True)
        for pair in [(0, 2), (0, GREAT), (0, 0), (0, -1), (1, 0), (-1, 0), (GREAT, 0)]:
            self.assertIs(is_fraction(pair), False, pair)

    def test_common_divisors(self):
        self.assertIs(is_fraction((3, 2)), True)
        self.assertIs(is_fraction((-3, 2)), True)
        for pair in [(2, 2), (4, 2), (-4, 2), (6, 9), (-6, 9), (3, -2), (-3, -2)]:
            self.assertIs(is_fraction(pair), False, pair)

    def test_great_numbers(self):
        self.assertIs(is_fraction((GREAT, GREAT + 1)), True)
        self.assertIs(is_fraction((-GREAT, 1)), True)
        self.assertIs(is_fraction((1, GREAT)), True)
        self.assertIs(is_fraction((10 ** 40, 10 ** 40 + 2)), False)
        self.assertIs(is_fraction((GREAT, GREAT)), False)

    def test_truths_and_other_values_in_either_place(self):
        for value in odd_values():
            for pair in [(value, 1), (1, value), (0, value), (value, value)]:
                self.assertIs(is_fraction(pair), False, pair)

    def test_other_values(self):
        wrong = [[3, 2], (3,), (3, 2, 1), (), "32", {3: 2}, 3, 0, GREAT, ((3, 2), 1), nested(60, tuple)]
        for value in wrong + odd_values():
            self.assertIs(is_fraction(value), False, value)


class Rows(unittest.TestCase):
    def both(self, counts, limits, hours, row):
        for thing in (list(row), tuple(row)):
            self.assertIs(are_counts(hours, thing), counts, (hours, thing))
            self.assertIs(are_limits(hours, thing), limits, (hours, thing))

    def test_just_so_many_one_fewer_one_more(self):
        for hours in (1, 2, 3, 24, 48, 49):
            for length in range(hours + 3):
                fits = length == hours
                self.both(fits, fits, hours, range(length))
                if length:
                    self.both(False, fits, hours, [None] * length)

    def test_great_numbers_and_nought(self):
        self.both(True, True, 3, [0, GREAT, 10 ** 30])
        self.both(True, True, 1, [0])

    def test_one_item_may_be_none_in_limits_alone(self):
        for hours in (1, 2, 5):
            for place in range(hours):
                row = [7] * hours
                row[place] = None
                self.both(False, True, hours, row)

    def test_one_item_otherwise(self):
        wrong = [value for value in BELOW + odd_values() if value is not None]
        for place in range(3):
            for value in wrong:
                row = [0, 5, 9]
                row[place] = value
                self.both(False, False, 3, row)

    def test_other_values(self):
        for hours in (1, 2, 3):
            wrong = [value for value in odd_values() if value != [None] and value != (None, None)]
            for value in wrong + COUNTS + BELOW + [{0: 0}, "0" * hours, bytes(hours), range(hours), {0: 1, 1: 1}]:
                self.assertIs(are_counts(hours, value), False, (hours, value))
                self.assertIs(are_limits(hours, value), False, (hours, value))

    def test_long_rows(self):
        self.both(True, True, 19999, [3] * 19999)
        self.both(False, True, 19999, [3] * 19998 + [None])
        self.both(False, False, 19999, [3] * 19998 + [True])
        self.both(False, False, 48, [3] * 19999)

    def test_nothing_is_changed(self):
        row = [1, None, 2]
        are_counts(3, row)
        are_limits(3, row)
        self.assertEqual(row, [1, None, 2])


if __name__ == "__main__":
    unittest.main()
