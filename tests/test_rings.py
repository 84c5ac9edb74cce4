"""[40], [10], and [2], [3], [4] of rings."""

import unittest
from itertools import product
from random import Random

from hourneeds.clocks import Clock
from hourneeds.errors import NoHour, Unlike
from hourneeds.needs import Needs
from hourneeds.plans import Plan
from hourneeds.rings import bound, is_ring, step_hours, winds
from helpers import (
    GREAT, Case, all_begins, count_rows, drawn_clock, drawn_row, falling_clock, no_hours, odd_values, serving_of,
    small_clocks, there_of,
)


def step_of(stays, hour, later):
    """By how many hours one goes on: tried one by one, from the width of the later hour on."""
    length = len(serving_of(stays, later))
    while (hour + length) % len(stays) != later:
        length += 1
    return length


def winds_of(stays, ring):
    """The winds of a ring, found by walking it once round, from its first hour on."""
    at = ring[0]
    for hour in ring[1:] + ring[:1]:
        at += step_of(stays, at % len(stays), hour)
    days, rest = divmod(at - ring[0], len(stays))
    assert rest == 0
    return days


def bound_of(stays, numbers, ring):
    """The bound of a ring: the first number that, times the winds, reaches all that is needed."""
    needed, days = sum(numbers[hour] for hour in ring), winds_of(stays, ring)
    return needed // days + (needed % days > 0)


def all_rings(hours, most):
    """All rings of up to so many hours, which may come again."""
    return [list(ring) for length in range(1, most + 1) for ring in product(range(hours), repeat=length)]


class StepHours(Case):
    def check(self, clock):
        stays = clock.stays()
        for hour in range(clock.hours):
            for later in range(clock.hours):
                self.assertEqual(step_hours(clock, hour, later), step_of(stays, hour, later))

    def test_between_all_hours_of_small_clocks(self):
        for stays in small_clocks(5):
            self.check(Clock(stays))

    def test_between_all_hours_of_great_clocks(self):
        source = Random(40)
        for clock in [falling_clock(24), falling_clock(48).turned(5), *[Clock.even(24, stay) for stay in (1, 8, 24)],
                      *[drawn_clock(source, 24, least) for least in (1, 6, 20)]]:
            self.check(clock)

    def test_from_an_hour_to_itself(self):
        for stays in small_clocks(5) + [[24] * 24, [1] * 24]:
            for hour in range(len(stays)):
                self.assertEqual(step_hours(Clock(stays), hour, hour), len(stays))

    def test_the_width_of_the_later_hour_counts(self):
        falling = Clock([3, 2, 1])
        told = [[step_hours(falling, hour, later) for later in range(3)] for hour in range(3)]
        self.assertEqual(told, [[3, 4, 5], [2, 3, 4], [1, 2, 3]])

    def test_no_hour_with_the_first_that_is_none(self):
        for hours in (1, 3, 24):
            clock = Clock.even(hours, hours)
            for wrong in no_hours(hours):
                self.raises(NoHour, lambda: step_hours(clock, wrong, 0), hour=wrong)
                self.raises(NoHour, lambda: step_hours(clock, hours - 1, wrong), hour=wrong)
                for other in ["other", -1, hours, None, True]:
                    self.raises(NoHour, lambda: step_hours(clock, wrong, other), hour=wrong)
                    self.raises(NoHour, lambda: step_hours(clock, other, wrong), hour=other)

    def test_turned_about_the_steps_are_the_same(self):
        for stays in small_clocks(4):
            clock, hours = Clock(stays), len(stays)
            for by, hour, later in product((1, 2, -1), range(hours), range(hours)):
                there = [(at + by) % hours for at in (hour, later)]
                self.assertEqual(step_hours(clock.turned(by), hour, later), step_hours(clock, *there))


class WindsAndBounds(Case):
    def check(self, clock, numbers, ring):
        before, stays = list(ring), clock.stays()
        told = winds(clock, ring)
        self.assertIs(told.__class__, int)
        self.assertEqual(told, winds_of(stays, ring))
        self.assertGreaterEqual(told, 1)
        self.assertEqual(bound(clock, Needs(numbers), ring), bound_of(stays, numbers, ring))
        self.assertEqual(ring, before)

    def test_all_rings_of_small_clocks_where_hours_come_again(self):
        for stays in small_clocks(3):
            hours = len(stays)
            for ring in all_rings(hours, 4):
                for numbers in ([3, 1, 5][:hours], [0, 10 ** 30, 7][:hours], [0] * hours):
                    self.check(Clock(stays), numbers, ring)

    def test_rings_of_one_hour(self):
        for stays in small_clocks(4) + [[24] * 24, [1] * 24]:
            clock, needs = Clock(stays), Needs([hour % 5 for hour in range(len(stays))])
            for hour in range(len(stays)):
                self.assertEqual([winds(clock, [hour]), bound(clock, needs, [hour])], [1, needs[hour]])

    def test_an_hour_that_comes_again_at_once(self):
        clock, needs = Clock([3, 2, 1]), Needs([4, 1, 2])
        self.assertEqual([winds(clock, [0, 0]), bound(clock, needs, [0, 0])], [2, 4])
        self.assertEqual([winds(clock, [0, 0, 1]), bound(clock, needs, [0, 0, 1])], [3, 3])
        self.assertEqual([winds(clock, [1] * 9), bound(clock, needs, [1] * 9)], [9, 1])

    def test_begun_elsewhere_and_gone_twice(self):
        source = Random(41)
        for hours in (1, 2, 5, 24):
            for _ in range(20):
                clock, needs = drawn_clock(source, hours), Needs(drawn_row(source, hours, 10 ** 30))
                ring = [source.randrange(hours) for _ in range(source.randint(1, 9))]
                for first in range(len(ring)):
                    turned = ring[first:] + ring[:first]
                    self.assertEqual(winds(clock, turned), winds(clock, ring))
                    self.assertEqual(bound(clock, needs, turned), bound(clock, needs, ring))
                self.assertEqual(winds(clock, ring + ring), 2 * winds(clock, ring))
                self.assertEqual(bound(clock, needs, ring + ring), bound(clock, needs, ring))

    def test_long_rings(self):
        source = Random(42)
        for clock in (Clock.even(24, 8), falling_clock(24), drawn_clock(source, 24, 5), Clock([1]), Clock.even(48, 7)):
            ring = [source.randrange(clock.hours) for _ in range(2000)]
            self.check(clock, drawn_row(source, clock.hours, 10 ** 30), ring)
            self.assertIs(is_ring(clock, Needs([1] * clock.hours), 1, ring), True)
            self.assertEqual([winds(clock, [0] * 2000), bound(clock, Needs([7] * clock.hours), [0] * 2000)], [2000, 7])

    def test_the_bound_is_rounded_up(self):
        clock, ring = Clock.even(3, 2), [0, 2, 1]
        self.assertEqual(winds(clock, ring), 2)
        for needed in (*range(9), 10 ** 30, 10 ** 30 + 1, GREAT, GREAT + 1):
            self.assertEqual(bound(clock, Needs([needed, 0, 0]), ring), (needed + 1) // 2)
        clock, ring = Clock.even(4, 2), [0, 1, 2, 3]
        self.assertEqual(winds(clock, ring), 5)
        told = [bound(clock, Needs([0, needed, 0, 0]), ring) for needed in range(12)]
        self.assertEqual(told, [0, 1, 1, 1, 1, 1, 2, 2, 2, 2, 2, 3])

    def test_0_where_nothing_is_needed(self):
        for stays in small_clocks(4):
            hours = len(stays)
            for ring in ([0], [hours - 1, 0], list(range(hours)), [0] * 5):
                told = bound(Clock(stays), Needs([0] * hours), ring)
                self.assertEqual([told.__class__, told], [int, 0])
        self.assertEqual(bound(Clock.even(3, 2), Needs([0, 0, 9]), [0, 1]), 0)

    def test_the_windows_lie_one_behind_another(self):
        for stays in small_clocks(4):
            clock, hours = Clock(stays), len(stays)
            for ring in all_rings(hours, 3):
                behind = ring[0]
                for hour in ring[1:] + ring[:1]:
                    at = behind + step_hours(clock, behind % hours, hour)
                    first = at - len(clock.serving(hour)) + 1
                    # Its window is behind the hour ahead, and a day earlier it would not be.
                    self.assertTrue(first - hours <= behind < first)
                    behind = at

    def test_no_plan_with_fewer_people_is_enough(self):
        for stays in small_clocks(3):
            hours = len(stays)
            for numbers in count_rows(hours, 2):
                for ring in all_rings(hours, 3):
                    for begins in all_begins(hours, bound(Clock(stays), Needs(numbers), ring) - 1):
                        there = there_of(stays, begins)
                        self.assertTrue(any(there[hour] < numbers[hour] for hour in range(hours)))

    def test_turned_about_winds_and_bounds_are_the_same(self):
        source = Random(43)
        for _ in range(60):
            hours, by = source.randint(1, 24), source.randint(-50, 50)
            clock, needs = drawn_clock(source, hours), Needs(drawn_row(source, hours, 10 ** 30))
            ring = [source.randrange(hours) for _ in range(source.randint(1, 30))]
            turned = [(hour - by) % hours for hour in ring]
            self.assertEqual(winds(clock.turned(by), turned), winds(clock, ring))
            self.assertEqual(bound(clock.turned(by), needs << by, turned), bound(clock, needs, ring))


class IsRing(Case):
    def test_numbers_at_the_bound_and_beside_it_and_below_0(self):
        for stays in small_clocks(3):
            hours = len(stays)
            clock = Clock(stays)
            for numbers in ([3, 1, 5][:hours], [0] * hours, [10 ** 30, 0, 1][:hours]):
                needs = Needs(numbers)
                for ring in all_rings(hours, 3):
                    least = bound_of(stays, numbers, ring)
                    for number in (least, least - 1, 0, -1, -GREAT):
                        self.assertIs(is_ring(clock, needs, number, ring), number <= least)
                    self.assertIs(is_ring(clock, needs, least + 1, ring), False)
                    self.assertIs(is_ring(clock, needs, GREAT, ring), False)

    def test_tuples_and_the_empty_list(self):
        clock, needs = Clock.even(3, 2), Needs([1, 1, 1])
        self.assertIs(is_ring(clock, needs, 2, [0, 2, 1]), True)
        things = [(0, 2, 1), (0,), [], (), {0: 0}, {0}, range(3), iter([0]), "0", needs, clock, Plan([0, 2, 1])]
        for thing in things:
            for number in (2, 0, -1, -GREAT):
                self.assertIs(is_ring(clock, needs, number, thing), False)

    def test_items_that_are_no_hours(self):
        for hours in (1, 3, 24):
            clock, needs = Clock.even(hours, 1), Needs([1] * hours)
            for wrong in no_hours(hours):
                for ring in ([wrong], [wrong, 0], [0, wrong], [0, 0, wrong, 0]):
                    self.assertIs(is_ring(clock, needs, 0, ring), False)
                    self.assertIs(is_ring(clock, needs, -1, ring), False)

    def test_truths_are_no_hours(self):
        clock, needs = Clock.even(2, 1), Needs([1, 1])
        for thing in ([True], [False], [0, True], [False, 1], [0, False]):
            self.assertIs(is_ring(clock, needs, 0, thing), False)
        self.assertIs(is_ring(clock, needs, 0, [0, 1, 0]), True)

    def test_any_other_value(self):
        for clock, needs in [(Clock([1]), Needs([0])), (Clock.even(3, 2), Needs([1, 1, 1]))]:
            for value in [0, 1, -1, GREAT, *odd_values()]:
                for number in (0, -GREAT):
                    self.assertIs(is_ring(clock, needs, number, value), False)

    def test_a_ring_that_is_passed_stays_as_it_was(self):
        clock, needs, ring, bad = Clock.even(3, 2), Needs([1, 1, 1]), [0, 2, 1], [0, [1], None]
        for thing in (ring, bad):
            is_ring(clock, needs, 2, thing)
        winds(clock, ring)
        bound(clock, needs, ring)
        self.assertEqual([ring, bad, list(clock), list(needs)], [[0, 2, 1], [0, [1], None], [2, 2, 2], [1, 1, 1]])


class Unlikes(Case):
    def test_unlike_ahead_of_all_else(self):
        for hours, others in [(1, 2), (2, 1), (3, 4), (24, 23), (24, 48)]:
            clock, needs = Clock.even(hours, 1), Needs([1] * others)
            self.raises(Unlike, lambda: bound(clock, needs, [0]))
            self.raises(Unlike, lambda: bound(clock, needs, [hours - 1, 0]))
            for number in (0, 1, -1, GREAT):
                for thing in [[0], [0] * 2000, [others], [hours], *odd_values()]:
                    self.raises(Unlike, lambda: is_ring(clock, needs, number, thing))


if __name__ == "__main__":
    unittest.main()
