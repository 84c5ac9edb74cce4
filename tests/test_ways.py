"""[51], [10], and [2], [3], [4] of steps and ways."""

import unittest
from itertools import product
from random import Random

from hourneeds.clocks import Clock
from hourneeds.errors import NoStep
from hourneeds.houses import House
from hourneeds.needs import Needs
from hourneeds.plans import Plan
from hourneeds.rings import bound, winds
from hourneeds.ways import bound_of, is_way, ring_way, steps, told, turns, value
from helpers import (
    GREAT, Case, all_begins, count_rows, drawn_clock, drawn_row, falling_clock, no_hours, odd_values, small_clocks,
)
from house_helpers import (
    WORDS, HouseCase, broken_by, even_limits, even_small_limits, great_limits, limits_of, made, simple_ways,
    small_limits, table_of, turns_and_value,
)

# Three hours that all have all limits, and the same without rooms and doors.
ALL = [2, 2, 2], [1, 2, 0], [4, 5, 6], [0, 1, 0], [3, 3, 3]
OPEN = [2, 2, 2], [1, 2, 0], [None] * 3, [0, 1, 0], [None] * 3


def no_steps(hours):
    """Values that are no step of a house of so many hours."""
    wrong = [("stay", 0), ("needs", 0), ("Keep", 0), ("keep ", 0), ("", 0), (0, "keep"), ("keep",), ("keep", 0, 0),
             ["keep", 0], {"keep": 0}, "keep", "keep 0", (("keep", 0),), (("keep",), 0), (None, 0), (b"keep", 0), ()]
    return [*wrong, *[("keep", hour) for hour in no_hours(hours)], *[(word, 0) for word in odd_values()], *odd_values()]


def walked(source, limits, most):
    """A way that source draws: a walk along steps that ends where it begins, after at most so many steps, or None."""
    table = table_of(limits)
    mark = start = source.randrange(len(limits[0]))
    way = []
    while len(way) < most:
        step = source.choice([step for step in table if table[step][0] == mark])
        way.append(step)
        mark = table[step][1]
        if mark == start and source.random() < 0.5:
            return way
    return None


class StepsAndTold(HouseCase):
    def check(self, limits):
        house, table = made(limits), table_of(limits)
        self.assertEqual(steps(house), list(table))
        self.assertEqual(steps(house), sorted(steps(house)))
        for step, one in table.items():
            found = told(house, step)
            self.assertIs(found.__class__, tuple)
            self.assertEqual(found, one)

    def test_small_houses(self):
        for limits in [*small_limits(60, 300), *even_small_limits(), ALL, OPEN]:
            self.check(limits)

    def test_great_houses(self):
        for limits in great_limits(61, 30):
            self.check(limits)
        for stays in ([24] * 24, [1] * 24, falling_clock(24).stays(), Clock.even(48, 17).stays()):
            self.check((stays, [1] * len(stays), [3] * len(stays), [10 ** 30] * len(stays), [4] * len(stays)))

    def test_a_keep_at_each_hour_a_room_or_a_door_only_where_there_is_one(self):
        house = House(Clock.even(3, 2), Needs([1, 0, 1]), rooms=[None, 0, None], doors=[7, None, None])
        self.assertEqual(steps(house), [("door", 0), ("keep", 0), ("keep", 1), ("keep", 2), ("need", 0), ("need", 1),
                                        ("need", 2), ("room", 1)])
        self.assertEqual(steps(House(Clock([1]), Needs([0]))), [("keep", 0), ("need", 0)])
        self.assertEqual(steps(House(Clock([1]), Needs([0]), rooms=[0], doors=[0])),
                         [("door", 0), ("keep", 0), ("need", 0), ("room", 0)])

    def test_each_sort_of_step_round_about(self):
        house = made(([3, 4, 4, 4, 3], [5, 6, 7, 8, 9], [15, 16, 17, 18, 19], [1, 0, 2, 3, 4], [21, 22, 23, 24, 25]))
        self.assertEqual(house.clock.widths(), [4, 4, 3, 3, 4])
        self.assertEqual([told(house, (word, 0)) for word in WORDS],
                         [(1, 0, -1, -21), (0, 1, 1, 1), (2, 1, 4, 5), (1, 2, -4, -15)])
        self.assertEqual([told(house, (word, 4)) for word in WORDS],
                         [(0, 4, -1, -25), (4, 0, 1, 4), (1, 0, 4, 9), (0, 1, -4, -19)])
        whole = made(even_limits(4, 4, 3, room=9))
        self.assertEqual([told(whole, ("need", 2)), told(whole, ("room", 3))], [(3, 3, 4, 3), (0, 0, -4, -9)])
        one = made(([1], [3], [9], [0], [8]))
        self.assertEqual([told(one, step) for step in steps(one)],
                         [(0, 0, -1, -8), (0, 0, 1, 0), (0, 0, 1, 3), (0, 0, -1, -9)])

    def test_no_step_with_the_very_value(self):
        for limits in (ALL, OPEN, ([1], [1], [None], [0], [None])):
            house = made(limits)
            for step in no_steps(len(limits[0])):
                self.raises(NoStep, lambda: told(house, step), step=step)
        for hour in range(3):
            for step in [("room", hour), ("door", hour)]:
                self.raises(NoStep, lambda: told(made(OPEN), step), step=step)
                self.assertEqual(told(made(ALL), step)[2] < 0, True)

    def test_truths_are_no_hours(self):
        for step in [("need", True), ("need", False), ("keep", True)]:
            self.raises(NoStep, lambda: told(made(ALL), step), step=step)

    def test_steps_that_are_told_may_be_changed(self):
        for limits in (ALL, OPEN):
            house = made(limits)
            self.may_be_changed(lambda: steps(house))
            self.assertEqual(limits_of(house), limits)

    def test_a_plan_breaks_a_step_just_if_its_sums_do(self):
        for limits in small_limits(62, 60):
            table, hours = table_of(limits), len(limits[0])
            for people in range(4):
                for begins in all_begins(hours, people):
                    sums = Plan(begins).sums()[:hours]
                    found = [step for step, (first, last, length, number) in table.items()
                             if sums[last] + (first + length - last) // hours * people - sums[first] < number]
                    self.assertEqual(made(limits).broken(Plan(begins)), found)


class IsWay(HouseCase):
    def ways(self):
        for limits in [*small_limits(63, 60), ALL, OPEN]:
            for way in simple_ways(limits):
                yield limits, way

    def test_ways_that_come_to_no_mark_twice_begun_anywhere(self):
        for limits, way in self.ways():
            for first in range(len(way)):
                self.assertIs(is_way(made(limits), way[first:] + way[:first]), True)

    def test_ways_that_come_to_the_same_mark_more_than_once(self):
        house = made(ALL)
        for way in ([("keep", 0), ("door", 0)] * 3, [("need", 0), ("keep", 1), ("door", 1), ("keep", 1)] * 2,
                    [("keep", 0), ("door", 0), ("keep", 0), ("keep", 1), ("keep", 2)],
                    [("need", 1), ("room", 1), ("keep", 0), ("need", 2), ("need", 1), ("keep", 2)]):
            self.assertIs(is_way(house, way), True)
            self.assertIs(is_way(house, way[1:] + way[:1]), True)
            self.assertIs(is_way(house, way[1:]), False)
        for limits, way in self.ways():
            self.assertIs(is_way(made(limits), way + way), True)
            self.assertIs(is_way(made(limits), way * 3), True)

    def test_all_short_lists_of_steps(self):
        for limits in (ALL, OPEN, ([2, 1], [1, 1], [3, None], [0, 0], [None, 2])):
            house, table = made(limits), table_of(limits)
            for many in (1, 2, 3):
                for way in product(table, repeat=many):
                    joined = all(table[way[place - 1]][1] == table[way[place]][0] for place in range(many))
                    self.assertIs(is_way(house, list(way)), joined)
                    self.assertIs(is_way(house, way), False)

    def test_tuples_and_the_empty_list(self):
        house = made(ALL)
        way = [("keep", 0), ("keep", 1), ("keep", 2)]
        self.assertIs(is_way(house, way), True)
        for thing in [tuple(way), (), [], {}, set(way), dict.fromkeys(way), iter(way), [list(step) for step in way],
                      [*way[:2], ["keep", 2]], [way], (way,), [*way, None]]:
            self.assertIs(is_way(house, thing), False)

    def test_a_room_where_there_is_none(self):
        for way in ([("need", 0), ("room", 0)], [("keep", 1), ("door", 1)], [("room", 2), ("room", 0), ("room", 1)]):
            self.assertIs(is_way(made(ALL), way), True)
            self.assertIs(is_way(made(OPEN), way), False)
        some = made((ALL[0], ALL[1], [4, None, 6], ALL[3], ALL[4]))
        self.assertIs(is_way(some, [("need", 0), ("room", 0)]), True)
        self.assertIs(is_way(some, [("need", 1), ("room", 1)]), False)

    def test_lists_with_a_value_that_is_no_step(self):
        for limits in (ALL, ([1], [1], [2], [0], [2])):
            house, hours = made(limits), len(limits[0])
            way = [("keep", hour) for hour in range(hours)]
            for wrong in no_steps(hours):
                for place in range(hours):
                    for thing in ([*way[:place], wrong, *way[place + 1:]], [*way[:place], wrong, *way[place:]]):
                        self.assertIs(is_way(house, thing), False)

    def test_any_other_value(self):
        for limits in (ALL, ([1], [1], [2], [0], [2])):
            for thing in [0, 1, -1, GREAT, ("keep", 0), *odd_values()]:
                self.assertIs(is_way(made(limits), thing), False)

    def test_long_lists(self):
        house = made(even_limits(24, 8, 1, room=3))
        way = [("keep", hour) for hour in range(24)]
        self.assertIs(is_way(house, way * 250), True)
        self.assertIs(is_way(house, way * 250 + [("keep", 1)]), False)
        self.assertEqual([turns(house, way * 250), value(house, way * 250)], [250, 0])

    def test_a_way_that_is_passed_stays_as_it_was(self):
        house, way, bad = made(ALL), [("need", 0), ("room", 0)], [("need", 0), [1], None]
        for thing in (way, bad):
            is_way(house, thing)
        for act in (turns, value, bound_of):
            self.assertEqual(act(house, way), act(house, way))
        self.assertEqual([way, bad], [[("need", 0), ("room", 0)], [("need", 0), [1], None]])


class TurnsValueBound(HouseCase):
    def check(self, limits, way):
        house = made(limits)
        days, worth = turns_and_value(limits, way)
        self.assertEqual([turns(house, way), value(house, way)], [days, worth])
        self.assertEqual([turns(house, way).__class__, value(house, way).__class__], [int, int])
        expected = None
        if days > 0:
            # The first number that, times the turns, reaches the value.
            expected = worth // days + (worth % days > 0)
        if days < 0:
            # The last number that, times the turns without their sign, does not pass the value without its sign.
            expected = (-worth) // (-days)
        self.assertEqual(bound_of(house, way), expected)
        return days

    def test_turns_above_at_and_below_0(self):
        signs = set()
        for limits in [*small_limits(64, 80), ALL]:
            for way in simple_ways(limits):
                signs.add(self.check(limits, way))
                self.check(limits, way * 3)
        self.assertTrue({-2, -1, 0, 1, 2} <= signs)

    def test_drawn_ways_of_great_houses(self):
        source = Random(65)
        for limits in great_limits(66, 20):
            for _ in range(20):
                way = walked(source, limits, 400)
                if way is not None:
                    self.check(limits, way)

    def test_rounded_up_and_rounded_down(self):
        forth, back = [("need", 0), ("need", 2), ("need", 1)], [("room", 2), ("room", 0), ("room", 1)]
        for number in (0, 1, 2, 3, 4, 5, 10 ** 30, 10 ** 30 + 1):
            house = House(Clock.even(3, 2), Needs([number, 0, 0]), rooms=[0, 0, number])
            self.assertEqual([turns(house, forth), turns(house, back)], [2, -2])
            self.assertEqual([value(house, forth), value(house, back)], [number, -number])
            self.assertEqual([bound_of(house, forth), bound_of(house, back)], [(number + 1) // 2, number // 2])

    def test_a_bound_may_be_below_0_and_value_may_be_above_0_with_turns_below_0(self):
        house = House(Clock.even(2, 1), Needs([5, 0]), rooms=[1, 1], doors=[0, 0])
        way = [("need", 0), ("door", 0), ("door", 1), ("door", 0)]
        self.assertEqual([turns(house, way), value(house, way), bound_of(house, way)], [-1, 5, -5])
        way = [("keep", 0), ("room", 0), ("need", 0), ("need", 1)]
        self.assertEqual([turns(house, way), value(house, way), bound_of(house, way)], [1, 4, 4])
        way = [("keep", 0), ("room", 0), ("room", 1), ("keep", 1), ("keep", 0), ("keep", 1)]
        self.assertEqual([turns(house, way), value(house, way), bound_of(house, way)], [1, -2, -2])

    def test_none_at_0_turns(self):
        house = made(ALL)
        for way in ([("need", 0), ("room", 0)], [("keep", 1), ("door", 1)], [("need", 1), ("room", 1)] * 5):
            self.assertEqual(turns(house, way), 0)
            self.assertIs(bound_of(house, way), None)
        self.assertEqual([value(house, [("need", 0), ("room", 0)]), value(house, [("keep", 1), ("door", 1)])], [-3, -2])

    def test_no_plan_has_fewer_people_or_more(self):
        for limits in small_limits(67, 60):
            house, hours = made(limits), len(limits[0])
            bounds = [(turns(house, way), bound_of(house, way)) for way in simple_ways(limits)]
            for people in range(5):
                for begins in all_begins(hours, people):
                    if broken_by(limits, begins):
                        continue
                    for days, limit in bounds:
                        self.assertTrue(days == 0 or (people >= limit if days > 0 else people <= limit))

    def test_turned_about_they_are_the_same(self):
        for limits in small_limits(68, 40):
            house, hours = made(limits), len(limits[0])
            for way in simple_ways(limits):
                for by in (1, -1, 6):
                    moved = [(word, (hour - by) % hours) for word, hour in way]
                    self.assertIs(is_way(house.turned(by), moved), True)
                    for act in (turns, value, bound_of):
                        self.assertEqual(act(house.turned(by), moved), act(house, way))


class RingWay(HouseCase):
    def check(self, clock, numbers, ring):
        before, house = list(ring), House(clock, Needs(numbers))
        way = ring_way(house, ring)
        self.assertIs(way.__class__, list)
        self.assertIs(is_way(house, way), True)
        # Its turns and its value are those of the ring.
        self.assertEqual(turns_and_value(limits_of(house), way),
                         (winds(clock, ring), sum(numbers[hour] for hour in ring)))
        self.assertEqual(bound_of(house, way), bound(clock, Needs(numbers), ring))
        # Each need step stands behind as few keep steps as lead to it, fewer than a day.
        self.assertEqual([hour for word, hour in way if word == "need"], ring)
        keeps = 0
        for word, _ in way:
            self.assertIn(word, ("keep", "need"))
            keeps = keeps + 1 if word == "keep" else 0
            self.assertLess(keeps, clock.hours)
        self.assertEqual(way[-1], ("need", ring[-1]))
        self.assertEqual(ring, before)

    def test_rings_of_small_clocks_where_hours_come_again(self):
        for stays in small_clocks(4):
            hours = len(stays)
            for many in (1, 2, 3):
                for ring in product(range(hours), repeat=many):
                    self.check(Clock(stays), [3, 0, 5, 1][:hours], list(ring))

    def test_rings_of_one_hour(self):
        self.assertEqual(ring_way(made(even_limits(3, 2, 1)), [0]), [("keep", 1), ("need", 0)])
        self.assertEqual(ring_way(made(even_limits(3, 3, 1)), [1]), [("need", 1)])
        self.assertEqual(ring_way(made(even_limits(4, 1, 1)), [2]), [("keep", 3), ("keep", 0), ("keep", 1), ("need", 2)])
        self.assertEqual(ring_way(made(even_limits(1, 1, 1)), [0]), [("need", 0)])

    def test_hours_that_come_again_and_rings_gone_twice(self):
        house = made(even_limits(3, 2, 1))
        self.assertEqual(ring_way(house, [0, 0]), [("keep", 1), ("need", 0)] * 2)
        self.assertEqual(ring_way(house, [0, 2, 1]), [("need", 0), ("need", 2), ("need", 1)])
        self.assertEqual(ring_way(house, [0, 2, 1] * 2), [("need", 0), ("need", 2), ("need", 1)] * 2)
        self.assertEqual(ring_way(house, [0, 1]), [("need", 0), ("keep", 1), ("keep", 2), ("need", 1)])

    def test_drawn_rings_of_great_clocks(self):
        source = Random(69)
        for hours in (5, 23, 24):
            for _ in range(20):
                clock = drawn_clock(source, hours, source.randint(1, hours))
                ring = [source.randrange(hours) for _ in range(source.randint(1, 60))]
                self.check(clock, drawn_row(source, hours, 10 ** 30), ring)

    def test_limits_do_not_matter(self):
        for limits in small_limits(70, 30):
            hours = len(limits[0])
            for ring in ([0], [hours - 1, 0], list(range(hours))):
                bare = made((*limits[:2], [None] * hours, [0] * hours, [None] * hours))
                self.assertEqual(ring_way(made(limits), ring), ring_way(bare, ring))

    def test_a_way_that_is_told_may_be_changed(self):
        house, ring = made(ALL), [0, 2, 1]
        self.may_be_changed(lambda: ring_way(house, ring))
        self.assertEqual(ring, [0, 2, 1])


class SmallNeeds(Case):
    def test_the_greatest_bound_of_a_way_is_that_of_a_ring(self):
        for stays in small_clocks(3):
            hours = len(stays)
            for numbers in count_rows(hours, 2):
                limits = stays, numbers, [None] * hours, [0] * hours, [None] * hours
                rings = [list(ring) for many in range(1, hours + 1) for ring in product(range(hours), repeat=many)]
                greatest = max(bound(Clock(stays), Needs(numbers), ring) for ring in rings)
                self.assertEqual(max(bound_of(made(limits), way) for way in simple_ways(limits)), greatest)


if __name__ == "__main__":
    unittest.main()
