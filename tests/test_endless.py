"""[92], [8], [10], and [2], [3], [4] of plans for ever."""

import unittest
from fractions import Fraction
from functools import lru_cache
from math import ceil
from random import Random

from hourneeds.clocks import Clock
from hourneeds.days import days_people, in_days
from hourneeds.endless import Endless
from hourneeds.errors import Never, NoPace, TooLong, Wrong
from hourneeds.houses import House
from hourneeds.needs import Needs
from hourneeds.paces import least_pace, most_pace, never
from hourneeds.people import some_plan
from hourneeds.plans import Plan
from helpers import GREAT, odd_values, serving_of
from house_helpers import (
    FORTY, HouseCase, as_tuple, even_limits, even_small_limits, great_limits, limits_of, made, reached_by, small_limits,
    table_of,
)

PACKED = even_limits(3, 2, 1, room=1)
NEVER = even_limits(3, 2, 2, room=1)
FAR = [10 ** 30, -(10 ** 30), GREAT, -GREAT, 10 ** 41 - 1, 1 - 10 ** 41]


def reached_by_walks(limits, pace):
    """What walks from mark 0 reach at most at each mark, found by going through those that come to no mark twice."""
    hours, found = len(limits[0]), {}
    steps = [(first, last, number - (first + length - last) // hours * pace)
             for first, last, length, number in table_of(limits).values()]

    def go_on(mark, reached, marks):
        found[mark] = max(found.get(mark, reached), reached)
        for first, last, number in steps:
            if first == mark and last not in marks:
                go_on(last, reached + number, marks + [last])

    go_on(0, Fraction(0), [0])
    return found


def sum_at(reached, pace, mark):
    """The sum at a mark, if walks reach so much at the marks of a day at a pace."""
    day, at = divmod(mark, len(reached))
    return ceil(reached[at] + day * pace)


def paces_between(limits):
    """The two paces, and some between them, or above the least one if there is no most one."""
    house = made(limits)
    least, most = Fraction(*least_pace(house)), most_pace(house)
    if most is None:
        return [least, least + 1, least + Fraction(1, 3), least + Fraction(7, 5), Fraction(least.numerator + 1, 1) + least]
    most = Fraction(*most)
    return sorted({least, most, (least + most) / 2, (2 * least + most) / 3, (least + 4 * most) / 5})


@lru_cache(maxsize=None)
def cached_small():
    """Small houses that some plan keeps, each with some paces."""
    found = [*small_limits(170, 60), *list(even_small_limits())[::2], PACKED, even_limits(3, 2, 2, room=3),
             even_limits(4, 3, 1, room=1), ([1, 3, 2], [1, 2, 1], [None] * 3, [0] * 3, [None] * 3)]
    return [(limits, paces_between(limits)) for limits in found if never(made(limits)) is None]


class EndlessCase(HouseCase):
    def check_limits(self, limits, endless, hours):
        """Checks all limits of a house at these hours."""
        stays, needs, rooms, kept, doors = limits
        for hour in hours:
            at, begins = hour % len(stays), endless(hour)
            window = range(hour - len(serving_of(stays, at)) + 1, hour + 1)
            there = sum(endless(begun) for begun in window)
            self.assertEqual(endless.there(hour), there)
            self.assertGreaterEqual(begins, kept[at])
            self.assertGreaterEqual(there, needs[at])
            if doors[at] is not None:
                self.assertLessEqual(begins, doors[at])
            if rooms[at] is not None:
                self.assertLessEqual(there, rooms[at])

    def check_sums(self, limits, pace, endless, reached, marks):
        for mark in marks:
            self.assertEqual(endless.sum_to(mark), sum_at(reached, pace, mark))
            begins = sum_at(reached, pace, mark + 1) - sum_at(reached, pace, mark)
            self.assertEqual(endless(mark), begins)


class Small(EndlessCase):
    def test_against_walks_of_the_tests_own(self):
        for limits, paces in cached_small():
            hours = len(limits[0])
            for pace in paces:
                endless, reached = Endless(made(limits), as_tuple(pace)), reached_by_walks(limits, pace)
                self.assertEqual(reached, reached_by(limits, pace))
                self.check_sums(limits, pace, endless, reached, [*range(-3 * hours, 3 * hours + 1), *FAR])

    def test_all_limits_are_kept(self):
        for limits, paces in cached_small():
            for pace in paces:
                endless = Endless(made(limits), as_tuple(pace))
                for near in (0, *FAR):
                    hours = len(limits[0]) * min(pace.denominator, 3)
                    self.check_limits(limits, endless, range(near - 2, near + hours + 2))

    def test_period_against_the_begins(self):
        periods = set()
        for limits, paces in cached_small():
            for pace in paces:
                endless, hours = Endless(made(limits), as_tuple(pace)), len(limits[0])
                begins = [endless(hour) for hour in range(-hours, 3 * hours * pace.denominator)]
                days = 1
                while begins[days * hours:] != begins[:-days * hours]:
                    days += 1
                self.assertEqual([endless.period, endless.period.__class__], [days, int])
                self.assertEqual(sum(begins[:days * hours]), days * pace)
                periods.add(days)
        self.assertTrue({1, 2, 3, 5} <= periods, periods)

    def test_plan_is_a_plan_of_the_days_in_one(self):
        for limits, paces in cached_small():
            for pace in paces:
                endless, hours = Endless(made(limits), as_tuple(pace)), len(limits[0])
                days = pace.denominator
                if hours * days > 48:
                    self.assertEqual(vars(self.raised(TooLong, endless.plan)), {"most": 48})
                    continue
                plan = endless.plan()
                self.assertIs(plan.__class__, Plan)
                self.assertEqual(list(plan), [endless(hour) for hour in range(hours * days)])
                self.assertEqual(plan.people, days * pace)
                self.is_plan([row * days for row in limits], plan.people, plan)
                self.assertIs(in_days(made(limits), days).allows(plan), True)
                least, most = days_people(made(limits), days)
                self.assertTrue(least <= plan.people and (most is None or plan.people <= most))


class Known(EndlessCase):
    def test_the_example(self):
        ever = Endless(made(PACKED), (3, 2))
        self.assertEqual([ever(hour) for hour in range(-3, 6)], [0, 1, 0, 1, 0, 1, 0, 1, 0])
        self.assertEqual([ever.sum_to(-3), ever(10 ** 30), ever.period, list(ever.plan())], [-1, 1, 2, [1, 0, 1, 0, 1, 0]])
        self.assertEqual([ever.there(hour) for hour in range(-9, 9)], [1] * 18)

    def test_one_hour(self):
        one = House(Clock([1]), Needs([0]))
        for pace in ((1, 3), (2, 3), (7, 5), (4, 1), (0, 1)):
            ever = Endless(one, pace)
            self.assertEqual([ever.sum_to(mark) for mark in range(-20, 20)],
                             [ceil(Fraction(*pace) * mark) for mark in range(-20, 20)])
            self.assertEqual([ever.period, ever.plan().people], [pace[1], pace[0]])
            self.assertEqual([ever.there(hour) for hour in range(-9, 9)], [ever(hour) for hour in range(-9, 9)])

    def test_nobody(self):
        ever = Endless(House(Clock([2, 2, 1]), Needs([0, 0, 0])), (0, 1))
        self.assertEqual({ever(hour) for hour in [*range(-9, 9), *FAR]}, {0})
        self.assertEqual([ever.period, list(ever.plan())], [1, [0, 0, 0]])

    def test_at_a_pace_that_is_an_integer_the_same_on_each_day(self):
        house = made(even_limits(4, 2, 3, room=5, keep=1))
        for people in (6, 7, 10):
            ever = Endless(house, (people, 1))
            self.assertEqual([ever(hour) for hour in range(4)] * 3, [ever(hour) for hour in range(-4, 8)])
            self.is_plan(limits_of(house), people, ever.plan())

    def test_there_where_one_stays_all_day(self):
        ever = Endless(made(even_limits(3, 3, 2, room=5)), (7, 2))
        for hour in [*range(-12, 12), *FAR]:
            self.assertEqual(ever.there(hour), sum(ever(begun) for begun in range(hour - 2, hour + 1)))
            self.assertTrue(2 <= ever.there(hour) <= 5)


class Great(EndlessCase):
    def test_up_to_24_hours_and_limits_up_to_10_to_the_30(self):
        checked = 0
        for limits in great_limits(171, 14):
            if never(made(limits)) is not None:
                self.never(Never, limits, lambda: Endless(made(limits), (1, 1)))
                continue
            for pace in paces_between(limits)[:3]:
                endless, reached = Endless(made(limits), as_tuple(pace)), reached_by(limits, pace)
                self.check_sums(limits, pace, endless, reached, [-49, -24, -1, 0, 1, 23, 24, 30, *FAR])
                self.check_limits(limits, endless, [*range(-26, 26), GREAT, -GREAT])
                self.assertEqual(endless.period, pace.denominator)
                checked += 1
        self.assertGreater(checked, 20)

    def test_paces_of_41_digits(self):
        limits = even_limits(24, 7, 10 ** 30, room=10 ** 30 + 10 ** 29, keep=5)
        house, least, most = made(limits), *paces_between(limits)[::4]
        for below in (10 ** 41 - 1, GREAT, 10 ** 40):
            pace = (least + most) / 2 + Fraction(1, below)
            endless, reached = Endless(house, as_tuple(pace)), reached_by(limits, pace)
            self.check_sums(limits, pace, endless, reached, [-25, -1, 0, 7, 24, *FAR])
            self.check_limits(limits, endless, [*range(-3, 26), 10 ** 41 - 1, 1 - 10 ** 41])
            self.assertEqual(endless.period, pace.denominator)
            self.raised(TooLong, endless.plan)
        open_house = made(even_limits(3, 2, 1))
        for pace in ((GREAT, 10), (2 * 10 ** 40 - 1, 10 ** 40), (3 * 10 ** 40 + 1, 2 * 10 ** 40)):
            endless, reached = Endless(open_house, pace), reached_by(even_limits(3, 2, 1), Fraction(*pace))
            self.check_sums(even_limits(3, 2, 1), Fraction(*pace), endless, reached, [-7, 0, 5, *FAR])

    def test_two_days_long_enough(self):
        limits = even_limits(24, 16, 1, room=1)
        endless = Endless(made(limits), (3, 2))
        self.assertEqual(list(endless.plan()), [endless(hour) for hour in range(48)])
        self.is_plan([row * 2 for row in limits], 3, endless.plan())


class MadeOf(EndlessCase):
    def test_wrong_0_for_what_is_no_house(self):
        for value in [0, Clock([1]), Needs([1]), limits_of(made(PACKED)), *odd_values()]:
            if not isinstance(value, House):
                for pace in ((3, 2), (1, 1), None, 0):
                    self.raises(Wrong, lambda: Endless(value, pace), place=0)

    def test_wrong_1_for_what_is_no_fraction(self):
        wrong = [3, "3/2", [3, 2], (3,), (3, 2, 1), (6, 4), (3, 0), (3, -2), (-3, -2), (0, 2), (0, 0), (0, -1),
                 (True, 1), (3, True), (3, None), ((3, 2), 1), (GREAT, 2 * GREAT), *odd_values()]
        for limits in (PACKED, NEVER):
            for pace in wrong:
                self.raises(Wrong, lambda: Endless(made(limits), pace), place=1)

    def test_never_ahead_of_no_pace(self):
        for limits in (NEVER, even_limits(24, 5, 10 ** 30, room=10 ** 30 - 1), even_limits(1, 1, 2, room=1)):
            for pace in ((0, 1), (3, 2), (-1, 1), (GREAT, 1)):
                self.never(Never, limits, lambda: Endless(made(limits), pace))

    def test_no_pace_with_the_very_pace(self):
        for pace in ((-1, 1), (0, 1), (1, 1), (4, 3), (2, 1), (14, 9), (15 * 10 ** 40 - 1, 10 ** 41),
                     (15 * 10 ** 39 + 1, 10 ** 40), (GREAT, 1), (-GREAT, 2)):
            self.raises(NoPace, lambda: Endless(made(PACKED), pace), fraction=pace)
        self.assertEqual(Endless(made(PACKED), (3, 2)).pace, (3, 2))

    def test_at_both_ends_between_them_and_beside_them(self):
        for limits, paces in cached_small():
            house, most = made(limits), most_pace(made(limits))
            for pace in paces:
                self.assertEqual(Endless(house, as_tuple(pace)).pace, as_tuple(pace))
            for near in (Fraction(1), Fraction(1, 1000), Fraction(1, 10 ** 41)):
                below = as_tuple(paces[0] - near)
                self.raises(NoPace, lambda: Endless(house, below), fraction=below)
                if most is not None:
                    above = as_tuple(Fraction(*most) + near)
                    self.raises(NoPace, lambda: Endless(house, above), fraction=above)
            if most is None:
                self.assertEqual(Endless(house, (FORTY, 1)).period, 1)

    def test_what_is_told_of_it(self):
        house, pace = made(PACKED), (3, 2)
        endless = Endless(house, pace)
        self.assertEqual([endless.house, endless.pace, endless.pace.__class__], [house, pace, tuple])
        for name, value in (("house", house), ("pace", (3, 2)), ("period", 2)):
            with self.assertRaises(AttributeError):
                setattr(endless, name, value)
        self.defines(Endless, ["__init__", "__call__", "__eq__", "sum_to", "there", "plan"],
                     properties=("house", "pace", "period"))


class TooLongAPeriod(EndlessCase):
    def test_just_where_a_period_has_more_than_48_hours(self):
        for hours in (1, 3, 5, 7, 16, 24):
            house = made(even_limits(hours, hours, 0))
            for days in range(1, 50):
                endless = Endless(house, (1, days))
                self.assertEqual(endless.period, days)
                if hours * days > 48:
                    self.assertEqual(vars(self.raised(TooLong, endless.plan)), {"most": 48})
                else:
                    self.assertEqual([endless.plan().hours, endless.plan().people], [hours * days, 1])


class Equal(EndlessCase):
    def test_by_house_and_pace(self):
        houses = [PACKED, even_limits(3, 2, 1), even_limits(3, 2, 1, room=2), even_limits(3, 2, 1, door=1)]
        told = [(limits, pace) for limits in houses for pace in ((3, 2), (5, 3))
                if limits is not PACKED or pace == (3, 2)]
        for one, pace in told:
            for other, at in told:
                same = (one, pace) == (other, at)
                self.assertIs(Endless(made(one), pace) == Endless(made(other), at), same)
                self.assertIs(Endless(made(one), pace) != Endless(made(other), at), not same)

    def test_to_nothing_else(self):
        endless = Endless(made(PACKED), (3, 2))
        others = [made(PACKED), (3, 2), (made(PACKED), (3, 2)), [made(PACKED), (3, 2)], endless.plan(), *odd_values()]
        for value in others:
            self.assertIs(endless == value, False)
            self.assertIs(value == endless, False)
            self.assertIs(endless != value, True)


class TurnedAbout(EndlessCase):
    def test_turned_houses_have_the_same_periods_and_are_kept_at_the_same_paces(self):
        for limits, paces in cached_small()[::3]:
            for by in (1, -1):
                turned = made(limits).turned(by)
                for pace in paces:
                    endless = Endless(turned, as_tuple(pace))
                    self.assertEqual(endless.period, pace.denominator)
                    self.check_limits(limits_of(turned), endless, range(-3, 6))

    def test_an_integer_pace_just_where_there_is_a_plan(self):
        for limits, paces in cached_small():
            for pace in paces:
                if pace.denominator == 1:
                    self.is_plan(limits, pace.numerator, some_plan(made(limits), pace.numerator))


class Kept(EndlessCase):
    def test_asking_changes_nothing(self):
        source, house = Random(172), made(PACKED)
        endless, other = Endless(house, (3, 2)), Endless(house, (3, 2))
        for _ in range(60):
            hour = source.choice([source.randint(-99, 99), source.randint(-GREAT, GREAT)])
            for act in (endless, endless.sum_to, endless.there):
                self.assertEqual(act(hour), act(hour))
        endless.plan()
        self.assertEqual([endless(hour) for hour in range(-9, 9)], [other(hour) for hour in range(-9, 9)])
        self.assertEqual([endless == other, limits_of(house)], [True, PACKED])
        self.assertIsNot(endless.plan(), endless.plan())

    def test_the_ways_of_never_may_be_changed(self):
        house = made(NEVER)
        self.may_be_changed(lambda: self.raised(Never, lambda: Endless(house, (3, 2))).ways)


if __name__ == "__main__":
    unittest.main()
