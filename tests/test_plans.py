"""[31], [7], [10], and [2], [3], [4] of plans."""

import unittest

from hourneeds.clocks import Clock
from hourneeds.errors import NoBegin, NoHour, Unlike, Wrong
from hourneeds.needs import Needs
from hourneeds.plans import Plan
from helpers import (
    GREAT, ROWS, TURNS, Case, RowTests, all_begins, count_rows, falling_clock, no_hours, odd_values, small_clocks,
    there_of,
)


def sums_of(begins):
    """The sums at all marks, each counted for itself."""
    return [sum(begins[:mark]) for mark in range(len(begins) + 1)]


class Rows(RowTests, Case):
    made = Plan
    whole = "people"

    def test_sums_that_are_passed_may_be_changed_behind(self):
        sums = [0, 3, 3, 4]
        plan = Plan.of_sums(sums)
        self.assertEqual(sums, [0, 3, 3, 4])
        sums[1] = 9
        self.assertEqual(plan.sums(), [0, 3, 3, 4])

    def test_nothing_that_is_passed_is_changed(self):
        row, other_row, stays, numbers = [3, 0, 1], [1, 1, 2], [3, 2, 1], [1, 5, 1]
        one, other, clock, needs = Plan(row), Plan(other_row), Clock(stays), Needs(numbers)
        for act in (lambda: one + other, lambda: one | other, lambda: one & other, lambda: one.within(other),
                    lambda: one.later(0), lambda: one.earlier(0), lambda: one.turned(1), lambda: one.there(clock),
                    lambda: one.lacking(clock, needs), lambda: one.is_enough(clock, needs), one.sums):
            act()
            self.assertEqual([list(one), list(other), list(clock), list(needs)], [row, other_row, stays, numbers])
            self.assertEqual([row, other_row, stays, numbers], [[3, 0, 1], [1, 1, 2], [3, 2, 1], [1, 5, 1]])

    def test_lists_that_are_told_may_be_changed(self):
        plan, clock = Plan([3, 0, 1]), Clock([3, 2, 1])
        self.may_be_changed(plan.sums)
        self.may_be_changed(lambda: plan.there(clock))
        self.may_be_changed(lambda: plan.lacking(clock, Needs([9, 9, 9])))
        self.assertEqual([list(plan), plan.people], [[3, 0, 1], 4])

    def test_sums(self):
        for row in ROWS + count_rows(3, 2):
            sums = Plan(row).sums()
            self.assertEqual(sums, sums_of(row))
            self.assertEqual([len(sums), sums[0], sums[-1]], [len(row) + 1, 0, sum(row)])

    def test_what_the_interface_lists_is_defined_in_the_class(self):
        self.defines(Plan, ["__init__", "__eq__", "__len__", "__iter__", "__getitem__", "__and__", "__or__", "__add__",
                            "within", "sums", "there", "lacking", "is_enough", "later", "earlier", "turned"],
                     properties=["hours", "people"], statics=["of_sums"])
        self.assertEqual(Plan.__module__, "hourneeds.plans")


class There(Case):
    def check(self, stays, begins, numbers):
        plan, clock, needs = Plan(begins), Clock(stays), Needs(numbers)
        there = there_of(stays, begins)
        self.assertEqual(plan.there(clock), there)
        lacking = [hour for hour in range(len(begins)) if there[hour] < numbers[hour]]
        self.assertEqual(plan.lacking(clock, needs), lacking)
        self.assertIs(plan.is_enough(clock, needs), lacking == [])

    def test_all_small_clocks_and_plans(self):
        for stays in small_clocks(3):
            for begins in count_rows(len(stays), 2):
                there = there_of(stays, begins)
                self.check(stays, begins, there)
                for numbers in count_rows(len(stays), 1):
                    self.check(stays, begins, numbers)
                    self.check(stays, begins, [one + more for one, more in zip(there, numbers)])

    def test_stays_that_are_unlike(self):
        for stays in small_clocks(5):
            for begins in ([1, 0, 2, 0, 3][:len(stays)], [0, 10 ** 30, 1, 7, 0][:len(stays)]):
                self.check(stays, begins, [10 ** 30, 3, 0, 2, 6][:len(stays)])

    def test_great_clocks(self):
        for clock in (falling_clock(48), falling_clock(24).turned(7), Clock.even(48, 48), Clock.even(24, 1)):
            begins = [(hour * 10 ** 29 + 3) % 11 ** 28 for hour in range(clock.hours)]
            there = there_of(clock.stays(), begins)
            self.check(clock.stays(), begins, there)
            there[5] += 1
            self.check(clock.stays(), begins, there)

    def test_each_hour_may_be_the_one_that_lacks(self):
        clock, plan = Clock.even(4, 2), Plan([2, 0, 2, 0])
        for hour in range(4):
            self.assertEqual(plan.lacking(clock, Needs([2, 2, 2, 2]).with_need(hour, 3)), [hour])
        self.assertEqual(plan.lacking(clock, Needs([2, 2, 2, 2])), [])
        self.assertEqual(plan.lacking(clock, Needs([3, 3, 3, 3])), [0, 1, 2, 3])

    def test_unlike_whichever_has_other_hours(self):
        for hours, others in [(1, 2), (2, 1), (3, 4), (24, 23), (24, 48)]:
            plan, clock, needs = Plan([9] * hours), Clock.even(hours, 1), Needs([0] * hours)
            odd_plan, odd_clock, odd_needs = Plan([9] * others), Clock.even(others, 1), Needs([0] * others)
            self.raises(Unlike, lambda: plan.there(odd_clock))
            self.raises(Unlike, lambda: odd_plan.there(clock))
            for one, its_clock, its_needs in [(odd_plan, clock, needs), (plan, odd_clock, needs),
                                              (plan, clock, odd_needs), (plan, odd_clock, odd_needs)]:
                self.raises(Unlike, lambda: one.lacking(its_clock, its_needs))
                self.raises(Unlike, lambda: one.is_enough(its_clock, its_needs))


class Pairs(Case):
    def check(self, one, other):
        first, second = Plan(one), Plan(other)
        both = list(zip(sums_of(one), sums_of(other)))
        lesser, greater = first & second, first | second
        self.assertIs(lesser.__class__, Plan)
        self.assertIs(greater.__class__, Plan)
        self.assertEqual(lesser.sums(), [min(a, b) for a, b in both])
        self.assertEqual(greater.sums(), [max(a, b) for a, b in both])
        self.assertEqual([lesser.people, greater.people], [first.people, first.people])
        self.assertIs(first.within(second), all(a <= b for a, b in both))
        self.assertIs(lesser.within(first) and first.within(greater), True)
        self.assertEqual([list(first), list(second)], [one, other])

    def test_all_small_plans(self):
        for hours, people in [(1, 0), (1, 5), (2, 3), (3, 0), (3, 4), (4, 3)]:
            for one in all_begins(hours, people):
                for other in all_begins(hours, people):
                    self.check(one, other)

    def test_great_plans(self):
        one = [10 ** 30 - hour for hour in range(48)]
        for other in (one[::-1], [sum(one)] + [0] * 47, [0] * 47 + [sum(one)], one[24:] + one[:24]):
            self.check(one, other)
            self.check(other, one)

    def test_the_greater_one_is_the_earlier_one(self):
        early, late = Plan([2, 0, 0]), Plan([0, 0, 2])
        self.assertEqual([early & late, early | late], [late, early])
        self.assertEqual([early.within(late), late.within(early)], [False, True])

    def test_unlike_hours_or_people(self):
        pairs = [([1], [1, 0]), ([1, 1], [1, 1, 0]), ([2, 0], [1, 0]), ([0], [1]), ([0], [0, 0]), ([1] * 48, [1] * 47),
                 ([10 ** 30, 0], [10 ** 30, 1]), ([1, 2], [1, 1, 0])]
        for one, other in pairs:
            for first, second in [(Plan(one), Plan(other)), (Plan(other), Plan(one))]:
                self.raises(Unlike, lambda: first & second)
                self.raises(Unlike, lambda: first | second)
                self.raises(Unlike, lambda: first.within(second))
                self.assertIs(first == second, False)

    def test_the_sum_of_two(self):
        for hours in (1, 2, 3):
            for one in count_rows(hours, 2):
                for other in count_rows(hours, 2):
                    told = Plan(one) + Plan(other)
                    self.assertIs(told.__class__, Plan)
                    self.assertEqual(list(told), [a + b for a, b in zip(one, other)])
        self.assertEqual(list(Plan([10 ** 30] * 48) + Plan([GREAT] * 48)), [10 ** 30 + GREAT] * 48)

    def test_the_sum_needs_as_many_hours_alone(self):
        for one, other in [([1], [1, 0]), ([0, 0], [0, 0, 0]), ([1] * 48, [1] * 47)]:
            self.raises(Unlike, lambda: Plan(one) + Plan(other))
            self.raises(Unlike, lambda: Plan(other) + Plan(one))
        self.assertEqual((Plan([3, 0]) + Plan([0, 10])).people, 13)


class Moved(Case):
    def check(self, begins):
        plan, hours = Plan(begins), len(begins)
        for hour in range(hours):
            for move, by in [(plan.later, 1), (plan.earlier, -1)]:
                if begins[hour] == 0:
                    self.raises(NoBegin, lambda: move(hour), hour=hour)
                    continue
                wanted = list(begins)
                wanted[hour] -= 1
                wanted[(hour + by) % hours] += 1
                told = move(hour)
                self.assertIs(told.__class__, Plan)
                self.assertEqual([list(told), told.people], [wanted, plan.people])
                self.assertEqual([list(plan), plan.people], [begins, sum(begins)])

    def test_each_hour_of_small_plans(self):
        for hours in (1, 2, 3, 4):
            for begins in count_rows(hours, 2):
                self.check(begins)

    def test_each_hour_of_great_plans(self):
        for begins in ROWS:
            self.check(begins)

    def test_the_last_hour_and_hour_0_and_one_hour_alone(self):
        plan = Plan([1, 0, 2])
        self.assertEqual([list(plan.later(2)), list(plan.earlier(0))], [[2, 0, 1], [0, 0, 3]])
        self.assertIs(plan.within(plan.later(2)), True)
        self.assertIs(plan.earlier(0).within(plan), True)
        self.assertEqual([plan.later(2).earlier(0), plan.earlier(0).later(2)], [plan, plan])
        self.assertEqual([Plan([4]).later(0), Plan([4]).earlier(0)], [Plan([4]), Plan([4])])

    def test_no_hour_comes_ahead_of_no_begin(self):
        for hours in (1, 3, 24):
            for plan in (Plan([0] * hours), Plan([1] * hours)):
                for hour in no_hours(hours):
                    self.raises(NoHour, lambda: plan.later(hour), hour=hour)
                    self.raises(NoHour, lambda: plan.earlier(hour), hour=hour)
                self.assertIn(plan.people, (0, hours))

    def test_nobody_begins_there(self):
        for hours in (1, 24, 48):
            plan = Plan([0] * hours)
            for hour in range(hours):
                self.raises(NoBegin, lambda: plan.later(hour), hour=hour)
                self.raises(NoBegin, lambda: plan.earlier(hour), hour=hour)


class Turned(Case):
    def test_by_integers_of_either_sign(self):
        for row in ROWS + count_rows(3, 1):
            plan, hours = Plan(row), len(row)
            for by in TURNS:
                turned = plan.turned(by)
                self.assertIs(turned.__class__, Plan)
                self.assertEqual(list(turned), [row[(hour + by) % hours] for hour in range(hours)])
                self.assertEqual([turned.people, turned.turned(-by)], [plan.people, plan])
            self.assertEqual(list(plan), row)

    def test_the_turned_plan_has_the_same_numbers(self):
        for stays in small_clocks(4):
            clock, hours = Clock(stays), len(stays)
            plan, needs = Plan([3, 0, 1, 2][:hours]), Needs([4, 1, 0, 3][:hours])
            for by in (1, 2, -1, 7, GREAT):
                turned_clock, turned_needs, turned = clock.turned(by), needs << by, plan.turned(by)
                there = plan.there(clock)
                self.assertEqual(turned.there(turned_clock), [there[(hour + by) % hours] for hour in range(hours)])
                lacking = [(hour + by) % hours for hour in turned.lacking(turned_clock, turned_needs)]
                self.assertEqual(sorted(lacking), plan.lacking(clock, needs))
                self.assertIs(turned.is_enough(turned_clock, turned_needs), plan.is_enough(clock, needs))


class OfSums(Case):
    def test_there_and_back(self):
        for row in ROWS + count_rows(3, 2) + [[1] * hours for hours in range(1, 49)]:
            for sums in (Plan(row).sums(), tuple(Plan(row).sums())):
                plan = Plan.of_sums(sums)
                self.assertIs(plan.__class__, Plan)
                self.assertEqual([list(plan), plan.sums()], [row, list(sums)])

    def test_an_object_knows_it_too(self):
        self.assertEqual(list(Plan([1]).of_sums([0, 2, 2])), [2, 0])

    def test_a_first_sum_that_is_not_0(self):
        for first in (1, 2, -1, GREAT, -GREAT):
            self.raises(Wrong, lambda: Plan.of_sums([first, GREAT + 1]), place=0)
            self.raises(Wrong, lambda: Plan.of_sums((first, first, first)), place=0)

    def test_a_sum_that_falls(self):
        for sums in ([0, -1], [0, 1, 0], [0, 5, 5, 4], [0, 0, 0, -1], [0, 9, 3, 9], [0, GREAT, GREAT - 1]):
            self.raises(Wrong, lambda: Plan.of_sums(sums), place=0)
            self.raises(Wrong, lambda: Plan.of_sums(tuple(sums)), place=0)
        for place in range(1, 49):
            sums = [1000 * mark for mark in range(49)]
            sums[place] = sums[place - 1] - 1
            self.raises(Wrong, lambda: Plan.of_sums(sums), place=0)

    def test_numbers_of_sums_that_are_wrong(self):
        for many in (0, 1, 50, 51, 20000):
            self.raises(Wrong, lambda: Plan.of_sums([0] * many), place=0)
            self.raises(Wrong, lambda: Plan.of_sums((0,) * many), place=0)
        self.assertEqual([Plan.of_sums([0] * 2).hours, Plan.of_sums([0] * 49).hours], [1, 48])

    def test_sums_that_are_no_integers(self):
        for place in range(4):
            for value in odd_values():
                sums = [0, 0, 1, 1]
                sums[place] = value
                self.raises(Wrong, lambda: Plan.of_sums(sums), place=0)
        self.raises(Wrong, lambda: Plan.of_sums([False, True]), place=0)

    def test_other_values(self):
        wrong = [0, 1, GREAT, {0: 0, 1: 0}, "00", b"\x00\x00", {0, 1}, range(3), iter([0, 1]), Plan([0, 1])]
        for value in wrong + odd_values():
            self.raises(Wrong, lambda: Plan.of_sums(value), place=0)


class Equal(Case):
    def test_equal_however_it_was_made(self):
        plan = Plan([2, 0, 4])
        self.assertIs(plan == plan, True)
        self.assertIs(plan == Plan([1, 0, 3]) + Plan([1, 0, 1]), True)
        self.assertIs(plan == plan.turned(2).turned(1), True)
        self.assertIs(plan == plan.turned(1), False)


class Closed(Case):
    """[7]: plans that are enough, with one number of people."""

    def enough(self, stays, numbers, people):
        clock, needs = Clock(stays), Needs(numbers)
        found = [Plan(begins) for begins in all_begins(len(stays), people)]
        return [plan for plan in found if plan.is_enough(clock, needs)]

    def check_numbers(self, told):
        self.assertEqual(sorted(set(told)), list(range(min(told), max(told) + 1)))

    def test_lesser_and_greater_sums_and_all_numbers_between(self):
        cases = [([3, 3, 3], [1, 1, 2], 4), ([3, 2, 1], [0, 1, 2], 4), ([2, 2, 2, 2], [2, 1, 2, 1], 5),
                 ([1, 2, 2, 1], [1, 0, 1, 2], 5), ([4, 3, 2, 3], [1, 3, 0, 2], 4), ([2, 2, 3, 2], [0, 0, 0, 0], 3)]
        for stays, numbers, people in cases:
            clock, needs = Clock(stays), Needs(numbers)
            plans = self.enough(stays, numbers, people)
            self.assertGreater(len(plans), 1)
            for one in plans:
                for other in plans:
                    self.assertIs((one & other).is_enough(clock, needs), True)
                    self.assertIs((one | other).is_enough(clock, needs), True)
            for hour in range(len(stays)):
                self.check_numbers([plan.there(clock)[hour] for plan in plans])
                for length in range(1, len(stays) + 1):
                    self.check_numbers([sum(list(plan.turned(hour))[:length]) for plan in plans])


if __name__ == "__main__":
    unittest.main()
