"""[91], [8], [10], and [2], [3], [4] of several days in one."""

import unittest
from fractions import Fraction
from math import ceil, floor
from random import Random

from hourneeds.clocks import Clock
from hourneeds.days import days_people, fewest_days, in_days
from hourneeds.errors import Never, NoDays, Stuck, TooLong
from hourneeds.houses import House
from hourneeds.needs import Needs
from hourneeds.paces import least_pace, most_pace
from hourneeds.people import least_people, most_people, stuck
from hourneeds.plans import Plan
from helpers import GREAT
from house_helpers import (
    FORTY, HouseCase, even_limits, even_small_limits, free_limits, great_limits, limits_of, made, paces_of, plans_of,
    small_limits,
)

PACKED = even_limits(3, 2, 1, room=1)
# Numbers of days of any length.
LONG = [1, 2, 3, 5, 7, 48, 49, 10 ** 30, 10 ** 30 + 1, FORTY, 10 ** 40, GREAT, 10 ** 41 - 1]


def tight_limits(seed, many):
    """So many houses of one to six hours whose rooms or doors leave little: of some no single day has a plan."""
    source = Random(seed)
    for at in range(many):
        hours = at % 6 + 1
        stays = [source.randint(1, hours)] * hours
        need = source.randint(1, 3)
        rooms = [need + source.choice([0, 0, 0, 1]) for _ in range(hours)]
        yield stays, [need] * hours, rooms, [0] * hours, [source.choice([None, None, 1, 2]) for _ in range(hours)]


def is_never(limits):
    """Whether the simple ways show that no plan keeps the house, however many days it has."""
    least, most, alone = paces_of(limits)
    return alone or most is not None and least > most


def cases():
    """Small houses, some of them kept by no plan."""
    return [*small_limits(160, 90), *even_small_limits(), *tight_limits(161, 48)]


class InDays(HouseCase):
    def test_rows_of_the_tests_own(self):
        for limits in [*small_limits(162, 40), PACKED, even_limits(24, 8, 10 ** 30, room=10 ** 30, keep=3),
                       even_limits(7, 3, 2), even_limits(1, 1, 5, door=9)]:
            hours = len(limits[0])
            for days in {1, 2, 3, 48 // hours - 1, 48 // hours} - {0}:
                if hours * days > 48:
                    continue
                told = in_days(made(limits), days)
                self.assertIs(told.__class__, House)
                expected = [[row[at % hours] for at in range(hours * days)] for row in limits]
                self.assertEqual([list(row) for row in limits_of(told)], expected)
                self.assertEqual(told.hours, hours * days)

    def test_one_day(self):
        for limits in [*small_limits(163, 20), even_limits(24, 8, 2), even_limits(48, 8, 2, room=9)]:
            self.assertEqual(in_days(made(limits), 1), made(limits))

    def test_as_many_as_come_to_48_hours_and_more(self):
        for hours in range(1, 25):
            house = made(even_limits(hours, (hours + 1) // 2, 3, room=4, door=5))
            most = 48 // hours
            self.assertEqual(in_days(house, most).hours, hours * most)
            for days in (most + 1, most + 2, 49, 10 ** 30, GREAT, 10 ** 41 - 1):
                self.raised_48(lambda: in_days(house, days))
        house = made(even_limits(48, 48, 1))
        self.assertEqual(in_days(house, 1), house)
        self.raised_48(lambda: in_days(house, 2))

    def raised_48(self, act):
        raised = self.raised(TooLong, act)
        self.assertEqual(vars(raised), {"most": 48})

    def test_a_house_without_any_plan_too(self):
        for limits in (even_limits(3, 2, 2, room=1), even_limits(1, 1, 2, room=1), even_limits(2, 1, 0, keep=2, door=1)):
            self.assertEqual(list(in_days(made(limits), 2).needs), limits[1] * 2)
            self.assertIsNot(stuck(in_days(made(limits), 2)), None)

    def test_plans_of_days_in_one_may_be_unlike(self):
        house = in_days(made(PACKED), 2)
        self.assertIs(house.allows(Plan([1, 0, 1, 0, 1, 0])), True)
        self.assertEqual(plans_of(limits_of(house), 3), [[0, 1, 0, 1, 0, 1], [1, 0, 1, 0, 1, 0]])


class DaysPeople(HouseCase):
    def test_against_the_plans_of_the_days_in_one(self):
        told = 0
        for limits in cases():
            house, hours = made(limits), len(limits[0])
            for days in range(1, 7):
                whole = made([row * days for row in limits])
                if is_never(limits):
                    self.never(Never, limits, lambda: days_people(house, days))
                    self.assertIsNot(stuck(whole), None)
                elif stuck(whole) is None:
                    self.assertEqual(days_people(house, days), (least_people(whole), most_people(whole)))
                    self.assertIs(days_people(house, days).__class__, tuple)
                    told += 1
                else:
                    self.raises(NoDays, lambda: days_people(house, days), days=days)
                    self.raised(Stuck, lambda: least_people(whole))
        self.assertGreater(told, 300)

    def test_against_a_search_through_all_plans_of_two_days(self):
        for limits in [PACKED, even_limits(3, 2, 1), even_limits(2, 1, 1, room=2), *list(small_limits(164, 30, 2))]:
            house = made(limits)
            if is_never(limits):
                continue
            whole = [row * 2 for row in limits]
            possible = [people for people in range(9) if plans_of(whole, people)]
            if not possible:
                self.raises(NoDays, lambda: days_people(house, 2), days=2)
                continue
            least, most = days_people(house, 2)
            last = 8 if most is None else min(most, 8)
            self.assertEqual(possible, list(range(least, last + 1)))

    def test_against_days_times_the_paces(self):
        closed = 0
        for limits in cases():
            house = made(limits)
            if is_never(limits):
                continue
            least, most, _ = paces_of(limits)
            for days in LONG:
                fewest, greatest = ceil(days * least), None if most is None else floor(days * most)
                if greatest is not None and fewest > greatest:
                    closed += 1
                    self.raises(NoDays, lambda: days_people(house, days), days=days)
                else:
                    self.assertEqual(days_people(house, days), (fewest, greatest))
        self.assertGreater(closed, 20)

    def test_known_ones(self):
        house, packed = made(even_limits(3, 2, 1)), made(PACKED)
        self.assertEqual(days_people(house, 2), (3, None))
        self.assertEqual(days_people(house, 10 ** 30 + 1), (1500000000000000000000000000002, None))
        self.assertEqual([days_people(packed, 2), days_people(packed, 10 ** 40)], [(3, 3), (15 * 10 ** 39, 15 * 10 ** 39)])
        for days in (1, 3, GREAT, 10 ** 41 - 1):
            self.raises(NoDays, lambda: days_people(packed, days), days=days)

    def test_great_houses(self):
        never = 0
        for limits in great_limits(165, 24):
            house = made(limits)
            hours = house.hours
            days = 48 // hours
            whole = made([row * days for row in limits])
            try:
                told = days_people(house, days)
            except (Never, NoDays) as error:
                never += error.__class__ is Never
                self.assertIsNot(stuck(whole), None)
                if error.__class__ is Never:
                    self.shows_never(limits, error.ways)
                continue
            self.assertEqual(told, (least_people(whole), most_people(whole)))
            least, most = Fraction(*least_pace(house)), most_pace(house)
            expected = ceil(GREAT * least), None if most is None else floor(GREAT * Fraction(*most))
            self.assertEqual(days_people(house, GREAT), expected)
        self.assertGreater(never, 0)


class FewestDays(HouseCase):
    def test_against_days_tried_one_by_one(self):
        found = set()
        for limits in cases():
            house = made(limits)
            if is_never(limits):
                self.never(Never, limits, lambda: fewest_days(house))
                continue
            days = 1
            while stuck(made([row * days for row in limits])) is not None:
                days += 1
            self.assertEqual(fewest_days(house), days)
            found.add(days)
        self.assertTrue({1, 2, 3} <= found, found)

    def test_known_ones(self):
        for limits, days in [(PACKED, 2), (even_limits(3, 2, 1), 1), (even_limits(24, 23, 1, room=1), 23),
                             (even_limits(24, 18, 1, room=1), 3), (even_limits(24, 7, 7 * 10 ** 29, room=7 * 10 ** 29), 1),
                             (even_limits(24, 7, 10 ** 30, room=10 ** 30), 7), (even_limits(1, 1, 5, room=5), 1)]:
            self.assertEqual(fewest_days(made(limits)), days)
            if days > 1:
                self.raises(NoDays, lambda: days_people(made(limits), days - 1), days=days - 1)
            self.assertEqual(days_people(made(limits), days)[0], ceil(days * Fraction(*least_pace(made(limits)))))

    def test_great_houses(self):
        source = Random(166)
        for limits in [*great_limits(167, 12), *[free_limits(source, 24, 10 ** 30) for _ in range(6)]]:
            house = made(limits)
            try:
                days = fewest_days(house)
            except Never as error:
                self.shows_never(limits, error.ways)
                continue
            days_people(house, days)
            for fewer in range(1, days):
                self.raises(NoDays, lambda: days_people(house, fewer), days=fewer)


class NeverFirst(HouseCase):
    def test_never_ahead_of_no_days(self):
        for limits in (even_limits(3, 2, 2, room=1), even_limits(24, 5, 10 ** 30, room=10 ** 30 - 1),
                       ([2, 2, 2], [0, 0, 0], [None, 3, None], [2, 2, 0], [None] * 3)):
            for days in LONG:
                self.never(Never, limits, lambda: days_people(made(limits), days))
            self.never(Never, limits, lambda: fewest_days(made(limits)))


class TurnedAbout(HouseCase):
    def test_turned_houses_have_the_same_numbers(self):
        for limits in tight_limits(168, 24):
            if is_never(limits):
                continue
            house = made(limits)
            for by in (1, -1, 5):
                turned = house.turned(by)
                self.assertEqual(fewest_days(turned), fewest_days(house))
                days = fewest_days(house)
                self.assertEqual(days_people(turned, days), days_people(house, days))
                if house.hours * 2 <= 48:
                    self.assertEqual(in_days(turned, 2), in_days(house, 2).turned(by))


class Kept(HouseCase):
    def test_asking_changes_nothing(self):
        limits = [2, 2, 2], [1, 1, 1], [4, None, 4], [0, 1, 0], [None, 3, 3]
        house = made(limits)
        for act in (lambda: in_days(house, 3), lambda: days_people(house, 3), lambda: fewest_days(house)):
            self.assertEqual(act(), act())
            self.assertEqual(limits_of(house), limits)
        self.may_be_changed(lambda: in_days(house, 2).rooms())
        two = House(Clock([1, 1]), Needs([1, 2]))
        self.assertIsNot(in_days(two, 1), None)
        self.assertEqual(limits_of(in_days(two, 2))[1], [1, 2, 1, 2])


if __name__ == "__main__":
    unittest.main()
