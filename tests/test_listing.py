"""[70], and [3], [4] of all plans of a small house."""

import unittest

from hourneeds.clocks import Clock
from hourneeds.errors import NoNumber, Unfit
from hourneeds.houses import House
from hourneeds.listing import count_plans, plan_at, plan_number, plans
from hourneeds.needs import Needs
from hourneeds.plans import Plan
from helpers import GREAT, all_begins, odd_values
from house_helpers import HouseCase, even_limits, even_small_limits, limits_of, made, plans_of, small_limits

HOUSE = even_limits(3, 2, 1)


class Small(HouseCase):
    def check(self, limits, people):
        house, expected = made(limits), plans_of(limits, people)
        told = plans(house, people)
        self.assertIs(told.__class__, list)
        self.assertTrue(all(plan.__class__ is Plan for plan in told))
        self.assertEqual([list(plan) for plan in told], expected)
        self.assertEqual(expected, sorted(expected))
        self.assertEqual(count_plans(house, people), len(expected))
        for at, begins in enumerate(expected):
            self.assertEqual(list(plan_at(house, people, at)), begins)
            self.assertEqual(plan_number(house, people, Plan(begins)), at)
        for number in (len(expected), len(expected) + 1, -1, GREAT):
            self.raises(NoNumber, lambda: plan_at(house, people, number), index=number)
        self.check_unfit(house, people, expected)

    def check_unfit(self, house, people, expected):
        for number in {people, people + 1, max(0, people - 1)}:
            for begins in all_begins(house.hours, number):
                if number != people or begins not in expected:
                    self.raises(Unfit, lambda: plan_number(house, people, Plan(begins)))

    def test_clocks_of_one_to_five_hours_and_up_to_six_people(self):
        for limits in small_limits(100, 50, most_hours=5):
            for people in range(7):
                self.check(limits, people)

    def test_the_same_limits_at_each_hour(self):
        for limits in even_small_limits():
            for people in (0, 1, 3, 6):
                self.check(limits, people)

    def test_without_limits_all_plans(self):
        for hours in range(1, 6):
            for people in range(7):
                told = plans(House(Clock.even(hours, 1), Needs([0] * hours)), people)
                self.assertEqual([list(plan) for plan in told], all_begins(hours, people))
        self.assertEqual(count_plans(House(Clock.even(5, 3), Needs([0] * 5)), 6), 210)


class GreatestSizes(HouseCase):
    free = [3] * 5, [0] * 5, [None] * 5, [0] * 5, [None] * 5
    some = [3, 2, 3, 4, 3], [1, 2, 0, 3, 1], [6, 5, None, None, 5], [0, 1, 0, 0, 0], [None, 4, 3, None, None]
    none = [3] * 5, [4] * 5, [3] * 5, [0] * 5, [None] * 5

    def check(self, limits, people, many):
        house, expected = made(limits), plans_of(limits, people)
        self.assertEqual([len(expected), count_plans(house, people)], [many, many])
        self.assertEqual([list(plan_at(house, people, number)) for number in range(many)], expected)
        self.assertEqual([plan_number(house, people, Plan(begins)) for begins in expected], list(range(many)))
        for number in range(many, many + 240):
            self.raises(NoNumber, lambda: plan_at(house, people, number), index=number)
        for begins in all_begins(5, people):
            if begins not in expected:
                self.raises(Unfit, lambda: plan_number(house, people, Plan(begins)))

    def test_each_index_and_each_plan_of_five_hours_and_six_people(self):
        self.check(self.free, 6, 210)
        self.check(self.some, 6, 29)
        self.check(self.none, 6, 0)

    def test_fewer_people(self):
        for people, many in ((5, 126), (1, 5), (0, 1)):
            self.check(self.free, people, many)
        for limits in (self.some, self.none):
            for people in range(6):
                self.check(limits, people, len(plans_of(limits, people)))

    def test_limits_drawn_for_five_hours(self):
        for limits in list(small_limits(101, 100, most_hours=5))[4::5]:
            self.check(limits, 6, len(plans_of(limits, 6)))

    def test_limits_that_are_great(self):
        great = 10 ** 30
        limits = [2, 3, 3, 3, 3], [0, 1, 0, 1, 0], [great, 5, great, None, great], [0, 0, 1, 0, 0], [great] * 5
        self.check(limits, 6, len(plans_of(limits, 6)))
        self.assertGreater(count_plans(made(limits), 6), 20)
        self.check((limits[0], [0, great, 0, 0, 0], *limits[2:]), 6, 0)

    def test_one_hour_and_two(self):
        for hours in (1, 2):
            for people in range(7):
                house = House(Clock.even(hours, 1), Needs([0] * hours))
                self.assertEqual(count_plans(house, people), 1 if hours == 1 else people + 1)
                for number in range(count_plans(house, people), 20):
                    self.raises(NoNumber, lambda: plan_at(house, people, number), index=number)


class NoPlan(HouseCase):
    def test_a_house_that_has_no_plan(self):
        for limits in (even_limits(3, 2, 1, room=1), even_limits(1, 1, 2, room=1), even_limits(5, 2, 10 ** 30, room=0),
                       even_limits(2, 1, 0, keep=10 ** 30, door=10 ** 30 - 1)):
            house = made(limits)
            for people in range(7):
                self.assertEqual([count_plans(house, people), plans(house, people)], [0, []])
                for number in (0, 1, None, -1):
                    self.raises(NoNumber, lambda: plan_at(house, people, number), index=number)
                for begins in all_begins(house.hours, people):
                    self.raises(Unfit, lambda: plan_number(house, people, Plan(begins)))

    def test_a_number_of_people_that_is_not_possible(self):
        house = made(HOUSE)
        for people in (0, 1):
            self.assertEqual([count_plans(house, people), plans(house, people)], [0, []])
            self.raises(NoNumber, lambda: plan_at(house, people, 0), index=0)
            self.raises(Unfit, lambda: plan_number(house, people, Plan([people, 0, 0])))


class WrongValues(HouseCase):
    def test_no_number_with_the_very_value(self):
        house = made(HOUSE)
        self.assertEqual(count_plans(house, 2), 3)
        for number in [3, 4, -1, -3, GREAT, -GREAT, *odd_values(), Plan([0, 1, 1]), [0], (0,)]:
            self.raises(NoNumber, lambda: plan_at(house, 2, number), index=number)

    def test_unfit_for_any_other_value(self):
        house = made(HOUSE)
        things = [0, 1, [0, 1, 1], (0, 1, 1), Needs([0, 1, 1]), Clock([2, 2, 2]), [Plan([0, 1, 1])], Plan([0, 1]),
                  Plan([0, 1, 1, 0]), Plan([0, 0, 2]), Plan([2, 2, 2]), house, *odd_values()]
        for thing in things:
            self.raises(Unfit, lambda: plan_number(house, 2, thing))
        one = House(Clock([1]), Needs([1]))
        self.assertEqual(plan_number(one, 1, Plan([1])), 0)
        self.raises(Unfit, lambda: plan_number(one, 2, Plan([1])))
        self.raises(Unfit, lambda: plan_number(one, 0, Plan([0])))


class Kept(HouseCase):
    def test_asking_changes_nothing(self):
        house, plan = made(HOUSE), Plan([1, 0, 1])
        self.may_be_changed(lambda: plans(house, 2))
        for act in (lambda: count_plans(house, 2), lambda: plan_at(house, 2, 1), lambda: plan_number(house, 2, plan)):
            self.assertEqual(act(), act())
        self.assertEqual([limits_of(house), list(plan)], [HOUSE, [1, 0, 1]])


if __name__ == "__main__":
    unittest.main()
