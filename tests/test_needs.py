"""[30], [10], and [2], [3], [4] of needs."""

import unittest

from hourneeds.errors import NoHour, Unlike, Wrong
from hourneeds.needs import Needs
from helpers import GREAT, ROWS, TURNS, Case, RowTests, count_rows, no_hours, odd_values


class Rows(RowTests, Case):
    made = Needs
    whole = "total"

    def test_nothing_that_is_passed_is_changed(self):
        row, other_row = [3, 0, 1], [1, 1, 1]
        one, other = Needs(row), Needs(other_row)
        for act in (lambda: one + other, lambda: one | other, lambda: one & other, lambda: one.within(other),
                    lambda: one * 3, lambda: 3 * one, lambda: one << 1, lambda: one >> 1, one.mirrored,
                    lambda: one.with_need(0, 8)):
            act()
            self.assertEqual([list(one), list(other), row, other_row], [[3, 0, 1], [1, 1, 1], [3, 0, 1], [1, 1, 1]])

    def test_what_the_interface_lists_is_defined_in_the_class(self):
        self.defines(Needs, ["__init__", "__eq__", "__len__", "__iter__", "__getitem__", "__add__", "__or__", "__and__",
                             "__mul__", "__rmul__", "__lshift__", "__rshift__", "within", "with_need", "mirrored"],
                     properties=["hours", "total"])
        self.assertEqual(Needs.__module__, "hourneeds.needs")


class WithNeed(Case):
    def test_another_number_at_each_hour(self):
        for row in ROWS:
            needs = Needs(row)
            for hour in range(len(row)):
                for number in (0, 1, 8, 10 ** 30, GREAT):
                    changed = list(row)
                    changed[hour] = number
                    other = needs.with_need(hour, number)
                    self.assertIs(other.__class__, Needs)
                    self.assertEqual([list(other), other.total], [changed, sum(changed)])
                    self.assertEqual([list(needs), needs.total], [row, sum(row)])

    def test_no_hour_comes_first(self):
        needs = Needs([3, 0, 1])
        for hour in no_hours(3):
            for number in (0, 5, -1, None, True, "1", [1]):
                self.raises(NoHour, lambda: needs.with_need(hour, number), hour=hour)
        self.assertEqual(list(needs), [3, 0, 1])

    def test_then_wrong_1(self):
        needs = Needs([3, 0, 1])
        for hour in range(3):
            for number in [-1, -2, -GREAT, *odd_values()]:
                self.raises(Wrong, lambda: needs.with_need(hour, number), place=1)
        self.assertEqual(list(needs), [3, 0, 1])


class Pairs(Case):
    def check(self, one, other):
        first, second = Needs(one), Needs(other)
        both = list(zip(one, other))
        for told, wanted in [
            (first + second, [a + b for a, b in both]),
            (first | second, [max(a, b) for a, b in both]),
            (first & second, [min(a, b) for a, b in both]),
        ]:
            self.assertIs(told.__class__, Needs)
            self.assertEqual(list(told), wanted)
        self.assertIs(first.within(second), all(a <= b for a, b in both))
        self.assertEqual([list(first), list(second)], [one, other])

    def test_all_small_rows(self):
        for hours in (1, 2, 3):
            for one in count_rows(hours, 2):
                for other in count_rows(hours, 2):
                    self.check(one, other)

    def test_great_rows(self):
        great = [10 ** 30 - hour for hour in range(48)]
        for other in (list(range(48)), great[::-1], great, [10 ** 30] * 48, [0] * 48):
            self.check(great, other)
            self.check(other, great)

    def test_a_needs_with_itself(self):
        needs = Needs([3, 0, 1])
        self.assertEqual([list(needs + needs), list(needs | needs), list(needs & needs)],
                         [[6, 0, 2], [3, 0, 1], [3, 0, 1]])
        self.assertIs(needs.within(needs), True)

    def test_unlike_either_way_about(self):
        for one, other in [([1], [1, 1]), ([0, 0], [0, 0, 0]), ([1] * 47, [1] * 48), ([1], [0] * 48), ([9], [1] * 24)]:
            for first, second in [(Needs(one), Needs(other)), (Needs(other), Needs(one))]:
                self.raises(Unlike, lambda: first + second)
                self.raises(Unlike, lambda: first | second)
                self.raises(Unlike, lambda: first & second)
                self.raises(Unlike, lambda: first.within(second))
                self.assertIs(first == second, False)


class Times(Case):
    def test_a_number_on_either_side(self):
        for row in ROWS:
            needs = Needs(row)
            for many in (0, 1, 2, 3, 10 ** 30, GREAT):
                wanted = [number * many for number in row]
                for told in (needs * many, many * needs):
                    self.assertIs(told.__class__, Needs)
                    self.assertEqual([list(told), told.total], [wanted, sum(wanted)])
                self.assertEqual(list(needs), row)

    def test_what_came_of_it_may_be_passed_in(self):
        needs = GREAT * (Needs([10 ** 30, 1]) * GREAT)
        self.assertEqual(list(needs + Needs(list(needs))), [2 * GREAT * GREAT * 10 ** 30, 2 * GREAT * GREAT])
        self.assertEqual(needs.with_need(1, needs[0])[1], GREAT * GREAT * 10 ** 30)


class Turned(Case):
    def test_by_integers_of_either_sign(self):
        for row in ROWS + count_rows(3, 1):
            needs, hours = Needs(row), len(row)
            for by in TURNS:
                left, right = needs << by, needs >> by
                self.assertIs(left.__class__, Needs)
                self.assertIs(right.__class__, Needs)
                self.assertEqual(list(left), [row[(hour + by) % hours] for hour in range(hours)])
                self.assertEqual(list(right), [row[(hour - by) % hours] for hour in range(hours)])
                self.assertEqual([left >> by, right << by, left.total], [needs, needs, needs.total])
            self.assertEqual(list(needs), row)

    def test_the_first_one_brings_the_later_hours_ahead(self):
        needs = Needs([1, 2, 3, 4])
        self.assertEqual([list(needs << 1), list(needs >> 1)], [[2, 3, 4, 1], [4, 1, 2, 3]])
        self.assertEqual([list(needs << 5), list(needs >> -1)], [[2, 3, 4, 1], [2, 3, 4, 1]])
        self.assertEqual([list(needs << 0), list(needs >> 4)], [[1, 2, 3, 4], [1, 2, 3, 4]])

    def test_pairs_turned_about_are_turned(self):
        one, other = Needs([5, 0, 2, 3]), Needs([1, 4, 2, 2])
        for by in TURNS:
            self.assertEqual((one << by) + (other << by), (one + other) << by)
            self.assertEqual((one << by) | (other << by), (one | other) << by)
            self.assertEqual((one << by) & (other << by), (one & other) << by)
            self.assertIs((one << by).within(other << by), False)
            self.assertIs((one << by).within((one | other) << by), True)


class Mirrored(Case):
    def test_mirrored_and_mirrored_twice(self):
        for row in ROWS + count_rows(3, 2):
            needs, last = Needs(row), len(row) - 1
            mirrored = needs.mirrored()
            self.assertIs(mirrored.__class__, Needs)
            for hour in range(last + 1):
                self.assertEqual(mirrored[hour], row[last - hour])
            self.assertEqual(len(mirrored), len(row))
            self.assertEqual(mirrored.mirrored(), needs)
            self.assertEqual(list(needs), row)


class Equal(Case):
    def test_equal_however_it_was_made(self):
        needs = Needs([2, 0, 4])
        self.assertIs(needs == needs, True)
        self.assertIs(needs == 2 * Needs([1, 0, 2]), True)
        self.assertIs(needs == (needs << 2) << 1, True)
        self.assertIs(needs == Needs([2, 7, 4]).with_need(1, 0), True)
        self.assertIs(needs == needs << 1, False)


if __name__ == "__main__":
    unittest.main()
