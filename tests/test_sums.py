"""[60], [7], [10], and [3] of the least and the greatest sums of the plans of a house."""

import unittest

from hourneeds.clocks import Clock
from hourneeds.errors import Impossible
from hourneeds.houses import House
from hourneeds.needs import Needs
from hourneeds.people import least_people, most_people, stuck
from hourneeds.plans import Plan
from hourneeds.sums import earliest, latest, sum_ranges
from helpers import GREAT
from house_helpers import (
    FORTY, HouseCase, even_limits, even_small_limits, great_limits, limits_of, made, plans_of, small_limits,
    table_of,
)


def sums_of(begins):
    """The sums at all marks."""
    return [sum(begins[:mark]) for mark in range(len(begins) + 1)]


class Small(HouseCase):
    def test_against_a_search_through_all_plans(self):
        for limits in [*small_limits(80, 150), *even_small_limits()]:
            house = made(limits)
            for people in range(7):
                plans = plans_of(limits, people)
                if not plans:
                    for act in (latest, earliest, sum_ranges):
                        self.impossible(Impossible, limits, people, lambda: act(house, people))
                    continue
                columns = list(zip(*[sums_of(begins) for begins in plans]))
                ranges = [(min(column), max(column)) for column in columns]
                self.check_told(house, people, ranges)
                self.assertIn(list(latest(house, people)), plans)
                self.assertIn(list(earliest(house, people)), plans)

    def check_told(self, house, people, ranges):
        self.assertEqual(sum_ranges(house, people), ranges)
        self.assertEqual({told.__class__ for told in sum_ranges(house, people)}, {tuple})
        late, early = latest(house, people), earliest(house, people)
        self.assertEqual([late.__class__, early.__class__], [Plan, Plan])
        self.assertEqual(late.sums(), [least for least, _ in ranges])
        self.assertEqual(early.sums(), [greatest for _, greatest in ranges])

    def test_of_two_plans_the_lesser_and_the_greater_sums_are_plans(self):
        for limits in small_limits(81, 40):
            house = made(limits)
            for people in range(5):
                plans = [Plan(begins) for begins in plans_of(limits, people)]
                for one in plans:
                    self.assertIs(latest(house, people).within(one), True)
                    self.assertIs(one.within(earliest(house, people)), True)
                    for other in plans:
                        self.assertIs(house.allows(one & other), True)
                        self.assertIs(house.allows(one | other), True)

    def test_one_hour(self):
        for people in (2, 3, 10 ** 30, FORTY):
            house = House(Clock([1]), Needs([2]))
            self.assertEqual([list(latest(house, people)), list(earliest(house, people))], [[people], [people]])
            self.assertEqual(sum_ranges(house, people), [(0, 0), (people, people)])
        self.impossible(Impossible, ([1], [2], [None], [0], [None]), 1, lambda: sum_ranges(house, 1))


class Great(HouseCase):
    def check_led(self, limits, people, plan, first, last):
        """Checks that steps that the plan just meets lead between mark 0 and each mark.

        First and last are 0 and 1 if they lead from mark 0, so that no sum can be less, and 1 and 0
        if they lead to it, so that none can be greater.
        """
        hours, sums = len(limits[0]), plan.sums()
        reached, new = {0}, [0]
        while new:
            mark = new.pop()
            for step in table_of(limits).values():
                days = (step[0] + step[2] - step[1]) // hours
                met = sums[step[1]] + days * people - sums[step[0]] == step[3]
                if met and step[first] == mark and step[last] not in reached:
                    reached.add(step[last])
                    new.append(step[last])
        self.assertEqual(reached, set(range(hours)))

    def check(self, limits):
        house = made(limits)
        if stuck(house) is not None:
            for act in (latest, earliest, sum_ranges):
                self.impossible(Impossible, limits, 10 ** 30, lambda: act(house, 10 ** 30))
            return
        least, most = least_people(house), most_people(house)
        for people in {least, least + 10 ** 29 if most is None else (least + most) // 2, FORTY if most is None else most}:
            late, early = latest(house, people), earliest(house, people)
            for plan in (late, early):
                self.is_plan(limits, people, plan)
            self.check_led(limits, people, late, 0, 1)
            self.check_led(limits, people, early, 1, 0)
            self.assertEqual(sum_ranges(house, people), list(zip(late.sums(), early.sums())))
        if least > 0:
            for act in (latest, earliest, sum_ranges):
                self.impossible(Impossible, limits, least - 1, lambda: act(house, least - 1))

    def test_up_to_24_hours_and_limits_up_to_10_to_the_30(self):
        for limits in great_limits(82, 50):
            self.check(limits)

    def test_limits_that_were_told_may_be_greater_still(self):
        for limits in great_limits(83, 6):
            self.check((limits[0], *[[None if number is None else number * GREAT for number in row]
                                     for row in limits[1:]]))


class Kept(HouseCase):
    def test_asking_changes_nothing(self):
        for limits in [even_limits(3, 2, 1), *small_limits(84, 8)]:
            house = made(limits)
            if stuck(house) is not None:
                continue
            people = least_people(house)
            self.may_be_changed(lambda: sum_ranges(house, people))
            for act in (latest, earliest):
                self.assertEqual(act(house, people), act(house, people))
            self.assertEqual(limits_of(house), limits)

    def test_the_way_that_is_raised_may_be_changed(self):
        house = made(even_limits(3, 2, 1))
        for act in (latest, earliest, sum_ranges):
            self.may_be_changed(lambda: self.raised(Impossible, lambda: act(house, 1)).way)


if __name__ == "__main__":
    unittest.main()
