"""[80], [10], and [3], [4] of what plans cost."""

import unittest
from itertools import product
from random import Random

from hourneeds.clocks import Clock
from hourneeds.costs import cheap_people, cheap_plan, cost_of, least_cost
from hourneeds.errors import Impossible, Stuck
from hourneeds.houses import House
from hourneeds.needs import Needs
from hourneeds.people import least_people, most_people, stuck
from hourneeds.plans import Plan
from helpers import all_begins, drawn_row
from house_helpers import (
    HouseCase, broken_by, disturbed, drawn_limits, even_limits, even_small_limits, free_limits, limits_of, made,
    plans_of, small_limits,
)

# Beyond the numbers of people of small houses that are gone through.
MOST = 9

TEN_MILLION = 10 ** 7


def costs_of(begins, dues):
    """What begins cost, paid one by one."""
    return sum(dues[hour] for hour, many in enumerate(begins) for _ in range(many))


def small_dues(source, hours):
    """Dues of so many hours, some of them 0, some far apart."""
    return [source.choice([0, 1, 1, 2, 3, 5, 40]) for _ in range(hours)]


def drawn_houses(seed, many, loose=(0, 10, 10 ** 3, 10 ** 6)):
    """So many houses of up to eight hours, with limits up to 10 ** 7, and dues for each; some have no plan."""
    source = Random(seed)
    for at in range(many):
        hours = source.choice([3, 5, 7, 8, 8])
        limits = drawn_limits(source, hours, source.choice([3, 10 ** 6]), source.choice(loose), open_some=at % 2 == 0)
        if at % 5 == 4:
            limits = disturbed(source, limits, TEN_MILLION)
        yield limits, [source.choice([0, 1, TEN_MILLION, source.randint(0, TEN_MILLION)]) for _ in range(hours)]


class CostOf(HouseCase):
    def test_small_plans(self):
        source = Random(120)
        for hours in (1, 2, 3, 5):
            for begins in all_begins(hours, 4):
                dues = small_dues(source, hours)
                self.assertEqual(cost_of(Plan(begins), dues), costs_of(begins, dues))

    def test_known_ones(self):
        self.assertEqual(cost_of(Plan([1, 1, 0]), [1, 5, 1]), 6)
        self.assertEqual(cost_of(Plan([0] * 8), [TEN_MILLION] * 8), 0)
        self.assertEqual(cost_of(Plan([TEN_MILLION] * 8), [TEN_MILLION] * 8), 8 * TEN_MILLION ** 2)
        self.assertEqual(cost_of(Plan([3, 4]), [0, 0]), 0)
        self.assertEqual(cost_of(Plan([2, 0, 1]), [10, 100, 1000]), 1020)


class Small(HouseCase):
    def cases(self):
        source = Random(121)
        for limits in [*small_limits(122, 120), *even_small_limits()]:
            for _ in range(2):
                yield limits, small_dues(source, len(limits[0]))

    def test_against_a_search_through_all_plans(self):
        for limits, dues in self.cases():
            house = made(limits)
            for people in range(6):
                plans = plans_of(limits, people)
                if not plans:
                    for act in (least_cost, cheap_plan):
                        self.impossible(Impossible, limits, people, lambda: act(house, people, dues))
                    continue
                least = min(costs_of(begins, dues) for begins in plans)
                self.assertEqual(least_cost(house, people, dues), least)
                plan = cheap_plan(house, people, dues)
                self.assertIs(plan.__class__, Plan)
                self.is_plan(limits, people, plan)
                self.assertEqual(costs_of(list(plan), dues), least)

    def test_cheap_people_against_a_search_through_all_plans(self):
        for limits, dues in self.cases():
            house, costs = made(limits), {}
            for people in range(MOST + 1):
                plans = plans_of(limits, people)
                if plans:
                    costs[people] = min(costs_of(begins, dues) for begins in plans)
            if not costs:
                self.stuck(Stuck, limits, lambda: cheap_people(house, dues))
                continue
            least = min(costs.values())
            expected = min(people for people, cost in costs.items() if cost == least)
            # The costs do not fall any more where the search ends.
            self.assertTrue(MOST not in costs or expected < MOST)
            self.assertEqual(cheap_people(house, dues), expected)

    def test_dues_and_needs_of_three_hours(self):
        for dues in product((0, 1, 3), repeat=3):
            for needs in product((0, 1, 2), repeat=3):
                limits = [2, 2, 2], list(needs), [None] * 3, [0] * 3, [None] * 3
                house = made(limits)
                for people in (2, 3, 4):
                    plans = plans_of(limits, people)
                    if plans:
                        least = min(costs_of(begins, dues) for begins in plans)
                        self.assertEqual(least_cost(house, people, list(dues)), least)


class Known(HouseCase):
    def test_more_people_may_cost_less(self):
        house = House(Clock.even(4, 2), Needs([1, 1, 0, 0]))
        dues = [9, 1, 9, 2]
        self.assertEqual([least_people(house), least_cost(house, 1, dues)], [1, 9])
        self.assertEqual([least_cost(house, people, dues) for people in (2, 3, 4)], [3, 4, 5])
        self.assertEqual(cheap_people(house, dues), 2)
        self.assertEqual(list(cheap_plan(house, 2, dues)), [0, 1, 0, 1])
        packed = House(Clock.even(4, 2), Needs([1, 1, 0, 0]), rooms=[1, 1, None, None], doors=[None, None, 0, None])
        self.assertEqual([least_people(packed), most_people(packed), cheap_people(packed, dues)], [1, 2, 2])

    def test_where_nobody_costs_anything_the_least_people(self):
        for need in (0, 1, TEN_MILLION):
            house = House(Clock.even(8, 3), Needs([need] * 8))
            self.assertEqual(cheap_people(house, [0] * 8), least_people(house))
            self.assertEqual(least_cost(house, 3 * TEN_MILLION, [0] * 8), 0)

    def test_one_hour(self):
        house = House(Clock([1]), Needs([2]), rooms=[5])
        self.assertEqual([least_cost(house, people, [7]) for people in (2, 3, 5)], [14, 21, 35])
        self.assertEqual([cheap_people(house, [7]), cheap_people(house, [0])], [2, 2])
        self.assertEqual(list(cheap_plan(house, 4, [7])), [4])
        for people in (0, 1, 6):
            self.impossible(Impossible, limits_of(house), people, lambda: least_cost(house, people, [7]))

    def test_a_house_without_any_plan(self):
        for limits in (even_limits(3, 2, 1, room=1), even_limits(8, 3, TEN_MILLION, room=TEN_MILLION - 1),
                       even_limits(1, 1, 2, room=1)):
            house, dues = made(limits), [1] * len(limits[0])
            for people in (0, 1, 2, TEN_MILLION):
                self.impossible(Impossible, limits, people, lambda: least_cost(house, people, dues))
                self.impossible(Impossible, limits, people, lambda: cheap_plan(house, people, dues))
            self.stuck(Stuck, limits, lambda: cheap_people(house, dues))

    def test_dues_far_apart_that_are_passed_on_link_by_link(self):
        # Each load is limited by another one: little by little this would take ten million paths.
        for hours in range(2, 9):
            for stay in range(1, hours + 1):
                house = House(Clock.even(hours, stay), Needs([1, TEN_MILLION] * 4)) if hours == 8 else (
                    House(Clock.even(hours, stay), Needs([TEN_MILLION] * hours)))
                people = least_people(house)
                for dues in ([TEN_MILLION, 0] * 4, [0, TEN_MILLION - 1, 1, TEN_MILLION] * 2, [1, TEN_MILLION] * 4):
                    plan = cheap_plan(house, people + 1, dues[:hours])
                    self.assertIs(house.allows(plan), True)


class Great(HouseCase):
    def is_cheapest(self, limits, plan, dues):
        """Checks that no row of sums is cheaper: were one, one would be where some sums are one more, all at once."""
        begins, hours = list(plan), plan.hours
        for raised in product((0, 1), repeat=hours):
            moved = [begins[hour] + raised[(hour + 1) % hours] - raised[hour] for hour in range(hours)]
            if min(moved) >= 0 and cost_of(Plan(moved), dues) < cost_of(plan, dues):
                self.assertNotEqual(broken_by(limits, moved), [])

    def test_up_to_eight_hours_and_numbers_up_to_10_million(self):
        for limits, dues in drawn_houses(123, 50):
            house = made(limits)
            if stuck(house) is not None:
                self.stuck(Stuck, limits, lambda: cheap_people(house, dues))
                self.impossible(Impossible, limits, TEN_MILLION, lambda: cheap_plan(house, TEN_MILLION, dues))
                continue
            least, most = least_people(house), most_people(house)
            for people in {least, 9 * TEN_MILLION if most is None else (least + most) // 2}:
                plan = cheap_plan(house, people, dues)
                self.is_plan(limits, people, plan)
                self.is_cheapest(limits, plan, dues)
                self.assertEqual(least_cost(house, people, dues), cost_of(plan, dues))
            if least > 0:
                self.impossible(Impossible, limits, least - 1, lambda: least_cost(house, least - 1, dues))

    def test_cheap_people_against_those_beside_them(self):
        numbers = set()
        for limits, dues in drawn_houses(124, 40):
            house = made(limits)
            if stuck(house) is not None:
                continue
            people, least, most = cheap_people(house, dues), least_people(house), most_people(house)
            self.assertTrue(least <= people and (most is None or people <= most))
            cost = least_cost(house, people, dues)
            if people > least:
                self.assertGreater(least_cost(house, people - 1, dues), cost)
            if people != most:
                self.assertGreaterEqual(least_cost(house, people + 1, dues), cost)
            numbers.add((people == least, people == most))
        self.assertTrue({(True, False), (False, False)} <= numbers)

    def test_the_least_costs_grow_by_more_and_more_or_fall_by_less_and_less(self):
        for limits, dues in drawn_houses(125, 30, loose=(3, 8)):
            house = made(limits)
            if stuck(house) is not None:
                continue
            least, most = least_people(house), most_people(house)
            last = least + 12 if most is None else min(most, least + 12)
            costs = [least_cost(house, people, dues) for people in range(least, last + 1)]
            grown = [after - before for before, after in zip(costs, costs[1:])]
            self.assertEqual(grown, sorted(grown))

    def test_limits_each_drawn_by_itself(self):
        source = Random(126)
        for _ in range(40):
            limits = free_limits(source, 8, TEN_MILLION)
            house, dues = made(limits), drawn_row(source, 8, TEN_MILLION)
            if stuck(house) is not None:
                self.stuck(Stuck, limits, lambda: cheap_people(house, dues))
                continue
            people = cheap_people(house, dues)
            self.is_cheapest(limits, cheap_plan(house, people, dues), dues)


class TurnedAbout(HouseCase):
    def test_turned_houses_have_the_same_costs(self):
        for limits, dues in drawn_houses(127, 12):
            house, hours = made(limits), len(limits[0])
            if stuck(house) is not None:
                continue
            people = least_people(house)
            for by in (1, -1, 5):
                turned = [dues[(hour + by) % hours] for hour in range(hours)]
                self.assertEqual(least_cost(house.turned(by), people, turned), least_cost(house, people, dues))
                self.assertEqual(cheap_people(house.turned(by), turned), cheap_people(house, dues))


class Kept(HouseCase):
    def test_asking_changes_nothing(self):
        limits, dues, plan = even_limits(3, 2, 1), [1, 5, 1], Plan([1, 1, 0])
        house = made(limits)
        for act in (lambda: cost_of(plan, dues), lambda: least_cost(house, 2, dues), lambda: cheap_plan(house, 2, dues),
                    lambda: cheap_people(house, dues)):
            self.assertEqual(act(), act())
            self.assertEqual([limits_of(house), dues, list(plan)], [limits, [1, 5, 1], [1, 1, 0]])
        for act in (least_cost, cheap_plan):
            self.may_be_changed(lambda: self.raised(Impossible, lambda: act(house, 1, dues)).way)
        packed = made(even_limits(3, 2, 1, room=1))
        self.may_be_changed(lambda: self.raised(Stuck, lambda: cheap_people(packed, dues)).ways)


if __name__ == "__main__":
    unittest.main()
