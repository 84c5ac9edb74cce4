"""[61], [5], [7], [10], and [3], [4] of how many begin in some hours in a row, or are there."""

import unittest
from random import Random

from hourneeds.clocks import Clock
from hourneeds.errors import Impossible, NoHour, OutOf
from hourneeds.houses import House
from hourneeds.needs import Needs
from hourneeds.people import least_people, most_people, stuck
from hourneeds.plans import Plan
from hourneeds.spans import begin_range, is_only, plan_with, span_range, there_range, tight
from hourneeds.ways import steps
from helpers import GREAT, no_hours, odd_values, there_of
from house_helpers import (
    FORTY, HouseCase, even_limits, even_small_limits, great_limits, limits_of, made, plans_of, small_limits,
)

HOUSE = even_limits(3, 2, 1)


def span(begins, mark, length):
    """How many begin at so many hours from hour mark on, counted hour by hour."""
    return sum(begins[(mark + later) % len(begins)] for later in range(length))


def ends(numbers):
    """The tuple of the least and the greatest of some numbers."""
    return min(numbers), max(numbers)


def met_by(limits, begins):
    """The steps of a house whose limit these begins just meet."""
    stays, needs, rooms, kept, doors = limits
    there, found = there_of(stays, begins), set()
    for hour in range(len(stays)):
        for word, number, limit in [("need", there[hour], needs[hour]), ("room", there[hour], rooms[hour]),
                                    ("keep", begins[hour], kept[hour]), ("door", begins[hour], doors[hour])]:
            if number == limit:
                found.add((word, hour))
    return found


class Small(HouseCase):
    def cases(self):
        """Small houses with numbers of people, and all plans of each with so many."""
        for limits in [*small_limits(90, 150), *even_small_limits()]:
            for people in range(6):
                yield limits, people, plans_of(limits, people)

    def test_ranges_at_all_marks_and_lengths(self):
        for limits, people, plans in self.cases():
            house, hours = made(limits), len(limits[0])
            for mark in range(hours):
                if not plans:
                    for act in (lambda: span_range(house, people, mark, 1), lambda: begin_range(house, people, mark),
                                lambda: there_range(house, people, mark)):
                        self.impossible(Impossible, limits, people, act)
                    continue
                for length in range(1, hours + 1):
                    told = span_range(house, people, mark, length)
                    self.assertIs(told.__class__, tuple)
                    self.assertEqual(told, ends([span(begins, mark, length) for begins in plans]))
                self.assertEqual(begin_range(house, people, mark), ends([begins[mark] for begins in plans]))
                theres = [there_of(limits[0], begins)[mark] for begins in plans]
                self.assertEqual(there_range(house, people, mark), ends(theres))

    def test_each_number_from_the_least_to_the_greatest(self):
        for limits, people, plans in self.cases():
            house, hours = made(limits), len(limits[0])
            for mark in range(hours):
                for length in range(1, hours + 1):
                    spans = {span(begins, mark, length) for begins in plans}
                    if not plans:
                        self.impossible(Impossible, limits, people, lambda: plan_with(house, people, mark, length, 0))
                        continue
                    self.assertEqual(spans, set(range(min(spans), max(spans) + 1)))
                    for number in spans:
                        plan = plan_with(house, people, mark, length, number)
                        self.assertIs(plan.__class__, Plan)
                        self.is_plan(limits, people, plan)
                        self.assertEqual(span(list(plan), mark, length), number)
                    for number in (min(spans) - 1, max(spans) + 1, -1, GREAT):
                        raised = self.raised(OutOf, lambda: plan_with(house, people, mark, length, number))
                        self.assertEqual(vars(raised), {"least": min(spans), "greatest": max(spans)})

    def test_how_many_are_there_takes_each_number(self):
        for limits, people, plans in self.cases():
            for hour in range(len(limits[0])):
                theres = {there_of(limits[0], begins)[hour] for begins in plans}
                if theres:
                    self.assertEqual(theres, set(range(min(theres), max(theres) + 1)))

    def test_tight_and_is_only(self):
        only = set()
        for limits, people, plans in self.cases():
            house = made(limits)
            if not plans:
                for act in (tight, is_only):
                    self.impossible(Impossible, limits, people, lambda: act(house, people))
                continue
            met = set.intersection(*[met_by(limits, begins) for begins in plans])
            self.assertEqual(tight(house, people), sorted(met))
            self.assertIs(is_only(house, people), len(plans) == 1)
            only.add(len(plans) == 1)
        self.assertEqual(only, {True, False})

    def test_turned_about_the_ranges_are_the_same(self):
        for limits, people, plans in self.cases():
            if not plans or people not in (2, 4):
                continue
            house, hours = made(limits), len(limits[0])
            for by in (1, -1, 7):
                turned = house.turned(by)
                for hour in range(hours):
                    moved = (hour - by) % hours
                    for length in range(1, hours + 1):
                        self.assertEqual(span_range(turned, people, moved, length), span_range(house, people, hour, length))
                    self.assertEqual(there_range(turned, people, moved), there_range(house, people, hour))
                told = sorted([(word, (hour - by) % hours) for word, hour in tight(house, people)])
                self.assertEqual(tight(turned, people), told)
                self.assertIs(is_only(turned, people), is_only(house, people))


class Known(HouseCase):
    def test_spans_that_go_past_the_end_of_the_day(self):
        house = made(HOUSE)
        self.assertEqual([span_range(house, 2, mark, 2) for mark in range(3)], [(1, 2)] * 3)
        self.assertEqual([span_range(house, 2, mark, 3) for mark in range(3)], [(2, 2)] * 3)
        kept = made(([1, 1, 1, 1], [0] * 4, [None] * 4, [3, 0, 0, 2], [None] * 4))
        self.assertEqual([span_range(kept, 6, 3, length) for length in (1, 2, 3, 4)], [(2, 3), (5, 6), (5, 6), (6, 6)])
        self.assertEqual(span(list(plan_with(kept, 6, 3, 2, 6)), 3, 2), 6)

    def test_all_hours_are_all_people(self):
        for people in (1, 2, 10 ** 30, FORTY):
            house = House(Clock.even(4, 2), Needs([0, 1, 0, 0]))
            for mark in range(4):
                self.assertEqual(span_range(house, people, mark, 4), (people, people))
                self.assertEqual(plan_with(house, people, mark, 4, people).people, people)

    def test_tight_keeps_where_nobody_ever_begins(self):
        house = House(Clock.even(3, 2), Needs([1, 0, 0]), doors=[None, 0, 0])
        self.assertEqual(tight(house, 1), [("door", 1), ("door", 2), ("keep", 1), ("keep", 2), ("need", 0), ("need", 2)])
        self.assertEqual(tight(house, 2), [("door", 1), ("door", 2), ("keep", 1), ("keep", 2), ("need", 2)])
        self.assertEqual([is_only(house, 1), is_only(house, 5)], [True, True])

    def test_one_hour(self):
        house = House(Clock([1]), Needs([2]), rooms=[3], kept=[2], doors=[4])
        self.assertEqual([begin_range(house, 2, 0), there_range(house, 3, 0)], [(2, 2), (3, 3)])
        self.assertEqual([tight(house, 2), tight(house, 3)], [[("keep", 0), ("need", 0)], [("room", 0)]])
        self.assertEqual([is_only(house, 2), list(plan_with(house, 3, 0, 1, 3))], [True, [3]])

    def test_nobody(self):
        house = House(Clock.even(2, 1), Needs([0, 0]))
        self.assertEqual([begin_range(house, 0, 1), is_only(house, 0), tight(house, 0)], [(0, 0), True, steps(house)])


class Errors(HouseCase):
    def test_no_hour_comes_first(self):
        for limits in (HOUSE, ([1, 1, 1], [3, 3, 3], [2, 2, 2], [0] * 3, [None] * 3)):
            house = made(limits)
            for hour in no_hours(3):
                for people in (0, 1, 2, FORTY):
                    for act in (lambda: span_range(house, people, hour, 1), lambda: span_range(house, people, hour, 3),
                                lambda: begin_range(house, people, hour), lambda: there_range(house, people, hour),
                                lambda: plan_with(house, people, hour, 2, None),
                                lambda: plan_with(house, people, hour, 2, 1)):
                        self.raises(NoHour, act, hour=hour)

    def test_impossible_ahead_of_out_of(self):
        house = made(HOUSE)
        for number in (0, -1, 7, None, "x", True, *odd_values()):
            for mark in range(3):
                self.impossible(Impossible, HOUSE, 1, lambda: plan_with(house, 1, mark, 2, number))
        for act in (lambda: span_range(house, 1, 2, 2), lambda: begin_range(house, 0, 1),
                    lambda: there_range(house, 1, 1), lambda: tight(house, 1), lambda: is_only(house, 0)):
            self.raised(Impossible, act)

    def test_the_way_is_one_of_the_very_house(self):
        # Turned about, steps of other hours would show it: limits of their own stand at each hour.
        limits = [2, 3, 2, 2], [9, 0, 1, 0], [None, None, 4, None], [0, 2, 0, 1], [None, 3, None, None]
        house = made(limits)
        for people in range(least_people(house)):
            for mark in range(4):
                self.impossible(Impossible, limits, people, lambda: span_range(house, people, mark, 2))
                self.impossible(Impossible, limits, people, lambda: begin_range(house, people, mark))
                self.impossible(Impossible, limits, people, lambda: there_range(house, people, mark))
                self.impossible(Impossible, limits, people, lambda: plan_with(house, people, mark, 2, 1))

    def test_out_of_for_values_that_are_no_integers(self):
        house = made(HOUSE)
        self.assertEqual(begin_range(house, 2, 0), (0, 1))
        for number in [2, -1, GREAT, -GREAT, *odd_values(), (0, 1), [1]]:
            raised = self.raised(OutOf, lambda: plan_with(house, 2, 0, 1, number))
            self.assertEqual(vars(raised), {"least": 0, "greatest": 1})
        for number in (0, 1):
            self.assertEqual(plan_with(house, 2, 0, 1, number)[0], number)


class Great(HouseCase):
    def check(self, source, limits, people):
        house, hours = made(limits), len(limits[0])
        for _ in range(3):
            mark, length = source.randrange(hours), source.randint(1, hours)
            least, greatest = span_range(house, people, mark, length)
            for number in {least, (least + greatest) // 2, greatest}:
                plan = plan_with(house, people, mark, length, number)
                self.is_plan(limits, people, plan)
                self.assertEqual(span(list(plan), mark, length), number)
            for number in (least - 1, greatest + 1):
                raised = self.raised(OutOf, lambda: plan_with(house, people, mark, length, number))
                self.assertEqual(vars(raised), {"least": least, "greatest": greatest})
            hour = source.randrange(hours)
            self.check_ends(limits, people, hour, there_range(house, people, hour), "need", "room")
            self.check_ends(limits, people, hour, begin_range(house, people, hour), "keep", "door")
        self.check_tight(limits, people, tight(house, people))
        self.assertIs(is_only(house, people),
                      all(begin_range(house, people, hour)[0] == begin_range(house, people, hour)[1]
                          for hour in range(hours)))

    def check_ends(self, limits, people, hour, told, lower, upper):
        """Checks that no plan has fewer or more than this range tells, and that some have just so many."""
        house, (least, greatest) = made(limits), told
        self.assertIs(stuck_with(house.with_limit(upper, hour, least), people), False)
        self.assertIs(stuck_with(house.with_limit(lower, hour, greatest), people), False)
        if least > 0:
            self.assertIs(stuck_with(house.with_limit(upper, hour, least - 1), people), True)
        self.assertIs(stuck_with(house.with_limit(lower, hour, greatest + 1), people), True)

    def check_tight(self, limits, people, told):
        """Checks each step: tight just if with a limit that is tighter by one no plan is left."""
        house = made(limits)
        for word, hour in steps(house):
            row = {"need": list(house.needs), "room": house.rooms(), "keep": house.kept(), "door": house.doors()}[word]
            tighter = row[hour] + (1 if word in ("need", "keep") else -1)
            lost = tighter < 0 or stuck_with(house.with_limit(word, hour, tighter), people)
            self.assertIs((word, hour) in told, lost)

    def test_limits_up_to_10_to_the_30(self):
        source = Random(91)
        for limits in great_limits(92, 24):
            house = made(limits)
            if stuck(house) is not None:
                continue
            least, most = least_people(house), most_people(house)
            for people in {least, FORTY if most is None else (least + most) // 2}:
                self.check(source, limits, people)


def stuck_with(house, people):
    """Whether a house has no plan with so many people."""
    try:
        begin_range(house, people, 0)
    except Impossible:
        return True
    return False


class Kept(HouseCase):
    def test_asking_changes_nothing(self):
        house = made(HOUSE)
        for act in (lambda: span_range(house, 2, 1, 2), lambda: begin_range(house, 2, 1), lambda: tight(house, 2),
                    lambda: there_range(house, 2, 1), lambda: plan_with(house, 2, 1, 1, 1), lambda: is_only(house, 2)):
            self.assertEqual(act(), act())
            self.assertEqual(limits_of(house), HOUSE)
        packed = made(even_limits(3, 2, 2, room=2))
        self.may_be_changed(lambda: tight(packed, 3))
        for act in (lambda: span_range(house, 1, 1, 2), lambda: tight(house, 1), lambda: plan_with(house, 1, 1, 2, 1)):
            self.may_be_changed(lambda: self.raised(Impossible, act).way)


if __name__ == "__main__":
    unittest.main()
