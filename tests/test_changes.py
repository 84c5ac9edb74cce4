"""[71], [10], and [3], [4] of what a limit, a need or a longer stay costs."""

import unittest
from random import Random

from hourneeds.changes import binding, free_need, least_need, more_for, stay_gain
from hourneeds.clocks import Clock
from hourneeds.errors import NoHour, NoStep, Stuck, Wrong
from hourneeds.houses import House
from hourneeds.needs import Needs
from hourneeds.people import least_people, stuck
from helpers import GREAT, drawn_clock, drawn_row, no_hours, odd_values, overtaken
from house_helpers import (
    WORDS, HouseCase, even_limits, even_small_limits, great_limits, limits_of, made, plans_of, small_limits,
)

PACKED = even_limits(3, 2, 1, room=1)
# Beyond the least numbers of people of the small houses below, also where one limit is another one.
MOST = 13


def least_of(limits):
    """The least number of people of a plan, found by going through all plans, or None if there is none."""
    for people in range(MOST):
        if plans_of(limits, people):
            return people
    return None


def with_row(limits, row, hour, number):
    """These limits with another number at an hour of a row."""
    changed = tuple(list(told) for told in limits)
    changed[row][hour] = number
    return changed


def least_or_none(house):
    """The least number of people, or None if the house has no plan."""
    return None if stuck(house) is not None else least_people(house)


def small_cases(seed, many, most_hours=3):
    """Small houses that have a plan, each with its least number of people."""
    for limits in [*small_limits(seed, many, most_hours), *list(even_small_limits())[::2]]:
        least = least_of(limits)
        if least is not None:
            yield limits, least


class MoreFor(HouseCase):
    rows = {"need": 1, "room": 2, "keep": 3, "door": 4}

    def test_against_a_search_through_all_plans(self):
        signs = set()
        for limits, least in small_cases(110, 45):
            for word, row in self.rows.items():
                for hour in range(len(limits[0])):
                    for number in [0, 1, 2, 4, *([None] if word in ("room", "door") else [])]:
                        after = least_of(with_row(limits, row, hour, number))
                        expected = None if after is None else after - least
                        self.assertEqual(more_for(made(limits), word, hour, number), expected)
                        signs.add((word, None if expected is None else (expected > 0) - (expected < 0)))
        for word in WORDS:
            self.assertTrue({(word, None), (word, 0)} <= signs)
        self.assertTrue({("need", -1), ("need", 1), ("keep", -1), ("keep", 1), ("door", 1)} <= signs)

    def test_limits_that_are_raised_lowered_new_and_taken_away(self):
        house = House(Clock.even(3, 2), Needs([1, 1, 1]))
        self.assertEqual([more_for(house, "need", 0, number) for number in (0, 1, 2, 3, 10 ** 30)],
                         [-1, 0, 0, 1, 10 ** 30 - 2])
        self.assertEqual([more_for(house, "keep", 0, number) for number in (0, 1, 5)], [0, 0, 4])
        self.assertEqual([more_for(house, "door", 0, number) for number in (None, 0)], [0, 0])
        self.assertEqual([more_for(house, "room", 0, number) for number in (None, 2, 1, 0)], [0, 0, 0, None])
        closed = House(Clock.even(3, 2), Needs([1, 1, 1]), doors=[None, 0, 0])
        self.assertIsNot(stuck(closed), None)
        closed = House(Clock.even(3, 2), Needs([3, 1, 0]), doors=[0, 2, None])
        self.assertEqual(least_people(closed), 4)
        self.assertEqual([more_for(closed, "door", 0, number) for number in (None, 1, 3)], [-1, -1, -1])
        self.assertEqual([more_for(closed, "door", 1, number) for number in (None, 0)], [0, None])

    def test_a_room_may_make_the_least_number_grow_or_fall(self):
        limits = [2, 2, 3, 3], [1, 0, 2, 0], [1, None, None, 1], [0] * 4, [None] * 4
        self.assertEqual([least_of(limits), least_of(with_row(limits, 2, 3, 0))], [2, 3])
        self.assertEqual([more_for(made(limits), "room", 3, number) for number in (None, 2, 1, 0)], [0, 0, 0, 1])
        lower = made(limits).with_limit("room", 3, 0)
        self.assertEqual([more_for(lower, "room", 3, number) for number in (None, 1, 0)], [-1, -1, 0])

    def test_no_step_then_wrong_2_then_stuck(self):
        for limits in (even_limits(3, 2, 1), PACKED):
            house = made(limits)
            for word in ["stay", "Need", "", *odd_values()]:
                for number in (1, -1, None):
                    raised = self.raised(NoStep, lambda: more_for(house, word, 0, number))
                    self.assertIs(raised.step.__class__, tuple)
                    self.assertIs(raised.step[0], word)
                    self.assertEqual([len(raised.step), raised.step[1]], [2, 0])
            for hour in no_hours(3):
                raised = self.raised(NoStep, lambda: more_for(house, "need", hour, -1))
                self.assertIs(raised.step[1], hour)
            for word in WORDS:
                for number in [-1, -GREAT, *odd_values()]:
                    if number is not None or word in ("need", "keep"):
                        self.raises(Wrong, lambda: more_for(house, word, 2, number), place=2)
        for word in WORDS:
            for number in (0, 1, 10 ** 30):
                self.stuck(Stuck, PACKED, lambda: more_for(made(PACKED), word, 1, number))
        # The house as it is counts, also where with the other limit it would have a plan.
        self.stuck(Stuck, PACKED, lambda: more_for(made(PACKED), "room", 1, 2))
        self.assertIs(stuck(made(PACKED).with_limit("room", 1, 2)), None)


class StayGain(HouseCase):
    def test_against_a_search_through_all_plans(self):
        signs = set()
        for limits, least in small_cases(111, 120, most_hours=4):
            for hour in range(len(limits[0])):
                stays = list(limits[0])
                stays[hour] += 1
                after = None
                if stays[hour] <= len(stays) and not overtaken(stays):
                    after = least_of((stays, *limits[1:]))
                expected = None if after is None else least - after
                self.assertEqual(stay_gain(made(limits), hour), expected)
                signs.add(None if expected is None else (expected > 0) - (expected < 0))
        self.assertTrue({None, 0, 1} <= signs)

    def test_none_where_no_clock_would_come(self):
        for limits in (even_limits(3, 3, 1), even_limits(1, 1, 1), ([3, 2, 1], [1, 1, 1], [None] * 3, [0] * 3, [None] * 3)):
            self.assertIs(stay_gain(made(limits), 0), None)
        self.assertIs(stay_gain(made(([2, 1, 1], [0] * 3, [None] * 3, [0] * 3, [None] * 3)), 0), None)

    def test_none_where_no_plan_is_left(self):
        house = made(([1, 1], [1, 1], [1, 1], [1, 1], [None, None]))
        self.assertEqual([least_people(house), stay_gain(house, 0), stay_gain(house, 1)], [2, None, None])

    def test_below_0_where_it_grows(self):
        # Who is kept at hour 2 would then fill the room of hour 4: nobody could serve the hours 3 to 0 any more.
        limits = [1, 3, 2, 3, 2], [1, 0, 0, 2, 0], [None] * 4 + [1], [0, 0, 1, 0, 0], [None] * 5
        self.assertEqual([least_of(limits), least_of(with_row(limits, 0, 2, 3))], [2, 3])
        self.assertEqual(stay_gain(made(limits), 2), -1)

    def test_no_hour_then_stuck(self):
        for limits in (even_limits(3, 2, 1), PACKED):
            for hour in no_hours(3):
                self.raises(NoHour, lambda: stay_gain(made(limits), hour), hour=hour)
        for limits in (PACKED, even_limits(3, 3, 2, room=1), even_limits(1, 1, 2, room=1)):
            for hour in range(len(limits[0])):
                self.stuck(Stuck, limits, lambda: stay_gain(made(limits), hour))


class FreeAndLeastNeed(HouseCase):
    def test_against_tries_by_one(self):
        for limits, least in small_cases(112, 90, most_hours=4):
            house = made(limits)
            for hour in range(len(limits[0])):
                need = limits[1][hour]
                while least_of(with_row(limits, 1, hour, need + 1)) == least:
                    need += 1
                self.assertEqual(free_need(house, hour), need)
                need = limits[1][hour]
                while need > 0 and least_of(with_row(limits, 1, hour, need - 1)) == least:
                    need -= 1
                self.assertEqual(least_need(house, hour), need)

    def test_known_ones(self):
        house = House(Clock.even(3, 2), Needs([1, 1, 1]))
        self.assertEqual([free_need(house, hour) for hour in range(3)], [2, 2, 2])
        self.assertEqual([least_need(house, hour) for hour in range(3)], [1, 1, 1])
        nobody = House(Clock.even(3, 2), Needs([0, 0, 0]))
        self.assertEqual([free_need(nobody, 1), least_need(nobody, 1)], [0, 0])
        one = House(Clock([1]), Needs([10 ** 30]), rooms=[10 ** 30])
        self.assertEqual([free_need(one, 0), least_need(one, 0)], [10 ** 30, 10 ** 30])
        kept = House(Clock.even(2, 1), Needs([2, 2]), kept=[5, 5])
        self.assertEqual([free_need(kept, 0), least_need(kept, 0)], [5, 0])
        roomed = House(Clock.even(2, 1), Needs([2, 2]), rooms=[3, None], kept=[0, 5])
        self.assertEqual([free_need(roomed, 0), least_need(roomed, 0)], [2, 2])

    def test_no_hour_then_stuck(self):
        for act in (free_need, least_need):
            for limits in (even_limits(3, 2, 1), PACKED):
                for hour in no_hours(3):
                    self.raises(NoHour, lambda: act(made(limits), hour), hour=hour)
            for limits in (PACKED, even_limits(1, 1, 2, room=1)):
                for hour in range(len(limits[0])):
                    self.stuck(Stuck, limits, lambda: act(made(limits), hour))


class Binding(HouseCase):
    def test_against_the_needs_one_fewer_each_hour_alone(self):
        lengths = set()
        for limits, least in small_cases(113, 120, most_hours=4):
            expected = [hour for hour, need in enumerate(limits[1])
                        if need > 0 and least_of(with_row(limits, 1, hour, need - 1)) < least]
            self.assertEqual(binding(made(limits)), expected)
            lengths.add(len(expected))
        self.assertTrue({0, 1, 2} <= lengths)

    def test_up_to_twelve_hours(self):
        source = Random(114)
        for hours in (5, 8, 11, 12):
            for most in (2, 4, 10 ** 30):
                clock = drawn_clock(source, hours, source.randint(1, hours))
                house = House(clock, Needs(drawn_row(source, hours, most)))
                least = least_people(house)
                expected = [hour for hour, need in enumerate(house.needs)
                            if need and least_people(house.with_limit("need", hour, need - 1)) < least]
                self.assertEqual(binding(house), expected)
        even = House(Clock.even(12, 5), Needs([10 ** 30] * 12))
        self.assertEqual(binding(even), [])
        # 36 needed in 5 winds ask for 8 people, 35 for 7 alone.
        self.assertEqual(binding(House(Clock.even(12, 5), Needs([3] * 12))), list(range(12)))

    def test_needs_of_0_do_not_bind(self):
        self.assertEqual(binding(House(Clock.even(3, 2), Needs([0, 0, 0]))), [])
        self.assertEqual(binding(House(Clock.even(3, 2), Needs([0, 2, 0]))), [1])
        self.assertEqual(binding(House(Clock.even(3, 2), Needs([0, 2, 0]), kept=[0, 3, 0])), [])

    def test_stuck(self):
        for limits in (PACKED, even_limits(1, 1, 2, room=1), even_limits(12, 5, 10 ** 30, room=1)):
            self.stuck(Stuck, limits, lambda: binding(made(limits)))


class Great(HouseCase):
    def test_up_to_24_hours_and_limits_up_to_10_to_the_30(self):
        source = Random(115)
        for limits in great_limits(116, 40):
            house, hour = made(limits), source.randrange(len(limits[0]))
            if stuck(house) is not None:
                for act in (lambda: more_for(house, "need", hour, 1), lambda: stay_gain(house, hour),
                            lambda: free_need(house, hour), lambda: least_need(house, hour)):
                    self.stuck(Stuck, limits, act)
                continue
            least = least_people(house)
            self.check_needs(house, hour, least)
            for word in WORDS:
                number = source.choice([0, 1, 10 ** 28, 10 ** 30])
                after = least_or_none(house.with_limit(word, hour, number))
                self.assertEqual(more_for(house, word, hour, number), None if after is None else after - least)
            stays = list(limits[0])
            stays[hour] += 1
            after = None
            if stays[hour] <= len(stays) and not overtaken(stays):
                after = least_or_none(made((stays, *limits[1:])))
            self.assertEqual(stay_gain(house, hour), None if after is None else least - after)

    def check_needs(self, house, hour, least):
        """Checks the needs at the two ends, and those one beside them."""
        most, lowest = free_need(house, hour), least_need(house, hour)
        self.assertTrue(lowest <= house.needs[hour] <= most)
        self.assertEqual(least_people(house.with_limit("need", hour, most)), least)
        self.assertNotEqual(least_or_none(house.with_limit("need", hour, most + 1)), least)
        self.assertEqual(least_people(house.with_limit("need", hour, lowest)), least)
        if lowest > 0:
            self.assertLess(least_people(house.with_limit("need", hour, lowest - 1)), least)


class TurnedAbout(HouseCase):
    def test_turned_houses_have_the_same_numbers(self):
        for limits, _ in small_cases(117, 40, most_hours=4):
            house, hours = made(limits), len(limits[0])
            for by in (1, -1, 6):
                turned = house.turned(by)
                self.assertEqual(binding(turned), sorted([(hour - by) % hours for hour in binding(house)]))
                for hour in range(hours):
                    moved = (hour - by) % hours
                    for act in (free_need, least_need, stay_gain):
                        self.assertEqual(act(turned, moved), act(house, hour))
                    for word in WORDS:
                        self.assertEqual(more_for(turned, word, moved, 2), more_for(house, word, hour, 2))


class Kept(HouseCase):
    def test_asking_changes_nothing(self):
        limits = even_limits(3, 2, 1)
        house = made(limits)
        self.may_be_changed(lambda: binding(house))
        for act in (lambda: more_for(house, "need", 0, 3), lambda: stay_gain(house, 0), lambda: free_need(house, 0),
                    lambda: least_need(house, 0)):
            self.assertEqual(act(), act())
            self.assertEqual(limits_of(house), limits)
        packed = made(PACKED)
        for act in (lambda: more_for(packed, "need", 0, 3), lambda: stay_gain(packed, 0), lambda: binding(packed)):
            self.may_be_changed(lambda: self.raised(Stuck, act).ways)


if __name__ == "__main__":
    unittest.main()
