"""[50], [10], and [2], [3], [4] of houses."""

import unittest
from random import Random

from hourneeds.clocks import Clock
from hourneeds.errors import NoHour, NoStep, Overtaken, Unlike, Wrong
from hourneeds.houses import House
from hourneeds.needs import Needs
from hourneeds.plans import Plan
from helpers import GREAT, TURNS, Case, all_begins, drawn_row, falling_clock, no_hours, odd_values, overtaken
from house_helpers import (
    FORTY, WORDS, HouseCase, broken_by, drawn_limits, even_limits, free_limits, great_limits, limits_of, made,
    small_limits,
)

NO_COUNTS = [-1, -2, -GREAT, *odd_values()]
NO_LIMITS = [value for value in NO_COUNTS if value is not None]


def limits_like(hours):
    """Limits with a bit of all: open and told ones, small and great ones."""
    rooms = [None if hour % 3 == 0 else 10 ** 30 + hour for hour in range(hours)]
    doors = [None if hour % 4 == 1 else hour for hour in range(hours)]
    needs = [(hour * hour) % 7 for hour in range(hours)]
    return [max(1, hours // 2)] * hours, needs, rooms, [hour % 2 for hour in range(hours)], doors


class Making(HouseCase):
    def check_told(self, house, limits):
        self.assertIs(house.__class__, House)
        self.assertEqual(limits_of(house), limits)
        self.assertEqual(house.hours, len(limits[0]))
        self.assertEqual([house.clock, house.needs], [Clock(limits[0]), Needs(limits[1])])
        self.assertEqual([house.clock.__class__, house.needs.__class__], [Clock, Needs])

    def test_each_number_of_hours_with_lists_and_tuples(self):
        for hours in range(1, 49):
            limits = limits_like(hours)
            stays, needs, rooms, kept, doors = limits
            for kind in (list, tuple):
                house = House(Clock(stays), Needs(needs), rooms=kind(rooms), kept=kind(kept), doors=kind(doors))
                self.check_told(house, limits)
                self.assertEqual([row.__class__ for row in (house.rooms(), house.kept(), house.doors())], [list] * 3)

    def test_limits_left_out_or_none(self):
        for hours in (1, 2, 3, 24, 48):
            clock, needs = Clock.even(hours, 1), Needs([2] * hours)
            limits = [1] * hours, [2] * hours, [None] * hours, [0] * hours, [None] * hours
            self.check_told(House(clock, needs), limits)
            self.check_told(House(clock, needs, rooms=None, kept=None, doors=None), limits)
            for kind in (list, tuple):
                self.check_told(House(clock, needs, rooms=kind([None] * hours), doors=kind([None] * hours)), limits)
            rooms = [0, *[None] * (hours - 1)]
            self.check_told(House(clock, needs, rooms=rooms), (*limits[:2], rooms, *limits[3:]))
            self.check_told(House(clock, needs, doors=rooms), (*limits[:4], rooms))
            kept = [0] * (hours - 1) + [10 ** 30]
            self.check_told(House(clock, needs, kept=kept), (*limits[:3], kept, limits[4]))

    def test_a_house_without_a_plan_may_be_made(self):
        limits = [1, 1], [3, 3], [0, 2], [5, 0], [4, 0]
        self.check_told(made(limits), limits)

    def test_what_is_passed_may_be_changed_behind_and_is_not_changed(self):
        limits = [2, 2, 2], [1, 0, 1], [3, None, 4], [0, 1, 0], [None, 2, 2]
        clock, needs = Clock(limits[0]), Needs(limits[1])
        rows = [list(row) for row in limits[2:]]
        house = House(clock, needs, rooms=rows[0], kept=rows[1], doors=rows[2])
        self.assertEqual(rows, list(limits[2:]))
        for row in rows:
            row[0] = 77
            row.append(5)
        self.check_told(house, limits)
        self.assertEqual(house, made(limits))
        self.assertEqual([list(clock), list(needs)], [limits[0], limits[1]])

    def test_lists_that_are_told_are_new(self):
        for house in (made(limits_like(3)), House(Clock.even(3, 2), Needs([1, 1, 1])), made(limits_like(1))):
            for ask in (house.rooms, house.kept, house.doors):
                self.may_be_changed(ask)

    def test_properties_cannot_be_assigned(self):
        house = made(limits_like(3))
        for name in ("hours", "clock", "needs"):
            with self.assertRaises(AttributeError):
                setattr(house, name, 3)
        self.check_told(house, limits_like(3))

    def test_limits_are_passed_by_keyword(self):
        with self.assertRaises(TypeError):
            House(Clock([1]), Needs([1]), [1])

    def test_what_the_interface_lists_is_defined_in_the_class(self):
        self.defines(House, ["__init__", "__eq__", "rooms", "kept", "doors", "allows", "broken", "with_limit",
                             "with_stay", "turned"], properties=["hours", "clock", "needs"])
        self.assertEqual(House.__module__, "hourneeds.houses")


class WrongArguments(Case):
    def test_0_for_what_is_no_clock_whatever_else_is_passed(self):
        for value in [0, 1, -1, [2, 2], *odd_values()]:
            if isinstance(value, Clock):
                continue
            self.raises(Wrong, lambda: House(value, Needs([1])), place=0)
            self.raises(Wrong, lambda: House(value, 7, rooms=7, kept=7, doors=7), place=0)

    def test_1_for_what_is_no_needs_of_as_many_hours(self):
        clock = Clock.even(3, 2)
        others = [Needs([1] * hours) for hours in (1, 2, 4, 48)]
        for value in [0, 1, [1, 1, 1], (1, 1, 1), Plan([1, 1, 1]), clock, *others, *odd_values()]:
            self.raises(Wrong, lambda: House(clock, value), place=1)
            self.raises(Wrong, lambda: House(clock, value, rooms=7, kept=[1], doors="x"), place=1)

    def test_2_3_and_4_for_rows_that_are_none(self):
        for hours in (1, 3, 24, 48):
            clock, needs = Clock.even(hours, 1), Needs([1] * hours)
            rows = [[1] * many for many in (0, hours - 1, hours + 1, 20000)]
            things = [0, 1, "1" * hours, Needs([1] * hours), Plan([1] * hours), {at: 1 for at in range(hours)},
                      range(hours), *rows, *[tuple(row) for row in rows]]
            # Of one hour, (None,) and the like would be a row.
            for value in things + [value for value in odd_values() if not isinstance(value, (list, tuple))]:
                if value is None:
                    continue
                self.raises(Wrong, lambda: House(clock, needs, rooms=value), place=2)
                self.raises(Wrong, lambda: House(clock, needs, kept=value), place=3)
                self.raises(Wrong, lambda: House(clock, needs, doors=value), place=4)

    def test_2_3_and_4_for_items_that_are_none(self):
        for hours in (1, 2, 48):
            clock, needs = Clock.even(hours, 1), Needs([1] * hours)
            for place in {0, hours - 1}:
                for kind in (list, tuple):
                    for value in NO_COUNTS:
                        row = [2] * hours
                        row[place] = value
                        self.raises(Wrong, lambda: House(clock, needs, kept=kind(row)), place=3)
                        if value is not None:
                            self.raises(Wrong, lambda: House(clock, needs, rooms=kind(row)), place=2)
                            self.raises(Wrong, lambda: House(clock, needs, doors=kind(row)), place=4)

    def test_the_first_wrong_argument_counts(self):
        clock, needs = Clock.even(2, 1), Needs([1, 1])
        self.raises(Wrong, lambda: House(clock, needs, rooms=[1], kept=[1], doors=[1]), place=2)
        self.raises(Wrong, lambda: House(clock, needs, doors=[1], kept=[1], rooms=[1]), place=2)
        self.raises(Wrong, lambda: House(clock, needs, doors=[1], kept=[None, 0], rooms=[None, 0]), place=3)
        self.raises(Wrong, lambda: House(clock, needs, doors=[True, 1], kept=[0, 0]), place=4)


class AllowsAndBroken(HouseCase):
    def check(self, limits, begins):
        house, plan, wrong = made(limits), Plan(begins), broken_by(limits, begins)
        self.assertEqual(house.broken(plan), wrong)
        self.assertIs(house.allows(plan), wrong == [])
        self.assertEqual([list(plan), limits_of(house)], [begins, limits])

    def test_all_plans_of_small_houses(self):
        for limits in small_limits(50, 200):
            for people in range(5):
                for begins in all_begins(len(limits[0]), people):
                    self.check(limits, begins)

    def test_a_plan_that_keeps_all_limits_and_one_step_at_a_time_that_it_breaks(self):
        stays, begins = [2, 3, 2, 2], [1, 2, 0, 3]
        there = Plan(begins).there(Clock(stays))
        just = (stays, there, there, begins, begins)
        self.check(just, begins)
        self.assertIs(made(just).allows(Plan(begins)), True)
        for row, by, word in [(1, 1, "need"), (2, -1, "room"), (3, 1, "keep"), (4, -1, "door")]:
            for hour in range(4):
                if just[row][hour] + by < 0:
                    continue
                limits = tuple(list(told) for told in just)
                limits[row][hour] += by
                self.assertEqual(made(limits).broken(Plan(begins)), [(word, hour)])
                self.assertIs(made(limits).allows(Plan(begins)), False)

    def test_ascending(self):
        limits = even_limits(12, 3, 5, room=2, keep=1, door=0)
        told = made(limits).broken(Plan([0, 3] * 6))
        self.assertEqual(told, sorted(told))
        self.assertEqual({word for word, _ in told}, set(WORDS))
        self.assertEqual(told, broken_by(limits, [0, 3] * 6))

    def test_up_to_48_hours_and_great_numbers(self):
        source = Random(51)
        for hours in (24, 47, 48):
            for most in (2, 10 ** 30):
                for _ in range(6):
                    self.check(drawn_limits(source, hours, most, 1), drawn_row(source, hours, most))
                    self.check(free_limits(source, hours, most), drawn_row(source, hours, most))
        stays, begins = falling_clock(48).stays(), [10 ** 30] * 48
        there = [(hour + 1) * 10 ** 30 for hour in range(48)]
        self.check((stays, there, there, begins, begins), begins)
        self.assertIs(made((stays, there, there, begins, begins)).allows(Plan(begins)), True)
        self.assertIs(made((stays, there, there, begins, begins)).allows(Plan(begins).later(5)), False)

    def test_unlike(self):
        for hours in (1, 2, 3, 48):
            for others in {1, 2, 4, 47, 48} - {hours}:
                for house in (made(even_limits(hours, 1, 0)), made(even_limits(hours, 1, 3, room=1))):
                    self.raises(Unlike, lambda: house.broken(Plan([1] * others)))
                    self.assertIs(house.allows(Plan([1] * others)), False)

    def test_any_other_value_is_not_allowed(self):
        house = House(Clock([1]), Needs([0]))
        for value in [0, 1, [1], (1,), [0], Needs([1]), Clock([1]), House(Clock([1]), Needs([0])), *odd_values()]:
            if value != Plan([1]):
                self.assertIs(house.allows(value), False)
        self.assertIs(house.allows(Plan([1])), True)

    def test_what_is_told_may_be_changed(self):
        house = made(even_limits(3, 2, 1))
        self.may_be_changed(lambda: house.broken(Plan([0, 0, 0])))


class WithLimit(HouseCase):
    rows = {"need": 1, "room": 2, "keep": 3, "door": 4}

    def test_each_word_at_each_hour(self):
        for limits in [limits_like(1), limits_like(3), limits_like(7), even_limits(3, 2, 1)]:
            house = made(limits)
            for word, row in self.rows.items():
                for hour in range(house.hours):
                    for number in [0, 1, 9, 10 ** 30, GREAT, *([None] if word in ("room", "door") else [])]:
                        changed = tuple(list(told) for told in limits)
                        changed[row][hour] = number
                        other = house.with_limit(word, hour, number)
                        self.assertIs(other.__class__, House)
                        self.assertEqual(limits_of(other), changed)
                        self.assertEqual(limits_of(house), limits)

    def test_a_limit_that_was_not_there_and_one_that_is_taken_away(self):
        house = House(Clock.even(3, 2), Needs([1, 1, 1]))
        roomed = house.with_limit("room", 1, 4)
        self.assertEqual([roomed.rooms(), house.rooms()], [[None, 4, None], [None] * 3])
        self.assertEqual(roomed.with_limit("room", 1, None), house)
        kept = house.with_limit("keep", 2, 4)
        self.assertEqual([kept.kept(), house.kept()], [[0, 0, 4], [0, 0, 0]])
        doored = house.with_limit("door", 0, 0)
        self.assertEqual([doored.doors(), house.doors()], [[0, None, None], [None] * 3])
        self.assertEqual(doored.with_limit("door", 0, None), house)

    def test_no_step_with_the_tuple_of_word_and_hour(self):
        house = made(limits_like(3))
        words = ["stay", "needs", "rooms", "kept", "doors", "Need", "need ", "", 0, 1, ("need", 0), *odd_values()]
        for word in words:
            for number in (1, None, -1, "x"):
                raised = self.raised(NoStep, lambda: house.with_limit(word, 0, number))
                self.assertEqual(list(vars(raised)), ["step"])
                self.assertIs(raised.step.__class__, tuple)
                self.assertEqual(len(raised.step), 2)
                self.assertIs(raised.step[0], word)
                self.assertEqual(raised.step[1], 0)
        for hour in no_hours(3):
            for word in WORDS:
                for number in (1, None, -1):
                    raised = self.raised(NoStep, lambda: house.with_limit(word, hour, number))
                    self.assertEqual(raised.step[0], word)
                    self.assertIs(raised.step[1], hour)
        self.assertEqual(limits_of(house), limits_like(3))

    def test_then_wrong_2(self):
        house = made(limits_like(3))
        for hour in range(3):
            for word in ("need", "keep"):
                for number in NO_COUNTS:
                    self.raises(Wrong, lambda: house.with_limit(word, hour, number), place=2)
            for word in ("room", "door"):
                for number in NO_LIMITS:
                    self.raises(Wrong, lambda: house.with_limit(word, hour, number), place=2)
        self.assertEqual(limits_of(house), limits_like(3))


class WithStay(HouseCase):
    def test_each_stay_at_each_hour(self):
        for limits in [*small_limits(52, 60), limits_like(9)]:
            house = made(limits)
            for hour in range(house.hours):
                for stay in range(1, house.hours + 1):
                    stays = list(limits[0])
                    stays[hour] = stay
                    if overtaken(stays):
                        least = overtaken(stays)[0]
                        raised = self.raised(Overtaken, lambda: house.with_stay(hour, stay))
                        self.assertEqual(vars(raised), {"hour": least})
                    else:
                        other = house.with_stay(hour, stay)
                        self.assertIs(other.__class__, House)
                        self.assertEqual(limits_of(other), (stays, *limits[1:]))
                    self.assertEqual(limits_of(house), limits)

    def test_no_hour_then_wrong_1(self):
        house = made(limits_like(3))
        for hour in no_hours(3):
            for stay in (1, 0, 4, None):
                self.raises(NoHour, lambda: house.with_stay(hour, stay), hour=hour)
        for stay in [0, 4, -1, GREAT, *odd_values()]:
            self.raises(Wrong, lambda: house.with_stay(2, stay), place=1)


class Turned(HouseCase):
    def test_by_integers_of_either_sign(self):
        for limits in [limits_like(1), limits_like(5), limits_like(24), *small_limits(53, 12)]:
            house, hours = made(limits), len(limits[0])
            for by in TURNS:
                turned = house.turned(by)
                self.assertIs(turned.__class__, House)
                self.assertEqual(limits_of(turned), tuple([row[(hour + by) % hours] for hour in range(hours)]
                                                          for row in limits))
                self.assertEqual(turned.turned(-by), house)
                self.assertEqual(limits_of(house), limits)

    def test_it_allows_the_turned_plans(self):
        for limits in small_limits(54, 40):
            house, hours = made(limits), len(limits[0])
            for begins in all_begins(hours, 3):
                plan = Plan(begins)
                for by in (1, -1, 5):
                    self.assertIs(house.turned(by).allows(plan.turned(by)), house.allows(plan))
                    turned = [(word, (hour - by) % hours) for word, hour in house.broken(plan)]
                    self.assertEqual(house.turned(by).broken(plan.turned(by)), sorted(turned))


class Equal(HouseCase):
    def test_equal_and_unlike_limits(self):
        base = [2, 2, 2], [1, 1, 1], [3, None, 3], [0, 1, 0], [None, None, 2]
        unlike = [base]
        for row, item in [(0, 1), (1, 0), (2, 4), (2, None), (2, 0), (3, 1), (4, 0), (4, 7)]:
            changed = tuple(list(told) for told in base)
            changed[row][0] = item
            unlike.append(changed)
        unlike += [even_limits(hours, 1, 1) for hours in (1, 2, 3, 4, 47, 48)]
        unlike += [even_limits(48, 1, 1, door=10 ** 30), even_limits(48, 1, 1, door=10 ** 30 + 1)]
        for at, one in enumerate(unlike):
            for place, other in enumerate(unlike):
                self.assertIs(made(one) == made(other), at == place)
                self.assertIs(made(one) != made(other), at != place)

    def test_no_limit_is_not_a_limit_of_0(self):
        clock, needs = Clock.even(2, 1), Needs([0, 0])
        self.assertIs(House(clock, needs) == House(clock, needs, rooms=[0, 0]), False)
        self.assertIs(House(clock, needs) == House(clock, needs, doors=[0, 0]), False)
        self.assertIs(House(clock, needs) == House(clock, needs, kept=[0, 0], rooms=(None, None)), True)

    def test_equal_to_nothing_else(self):
        for house in (House(Clock([1]), Needs([0])), made(limits_like(3))):
            for value in [0, 1, [1], Clock([1]), Needs([0]), Plan([0]), (Clock([1]), Needs([0])), *odd_values()]:
                if not isinstance(value, House):
                    self.assertIs(house == value, False)
                    self.assertIs(value == house, False)
                    self.assertIs(house != value, True)


class NothingIsChanged(HouseCase):
    def test_by_asking(self):
        for limits in [limits_like(4), *great_limits(55, 4)]:
            house, plan = made(limits), Plan([1] * len(limits[0]))
            for act in (lambda: house.allows(plan), lambda: house.broken(plan), lambda: house.turned(3),
                        lambda: house.with_limit("room", 0, FORTY), lambda: house.with_stay(0, 1), house.rooms):
                try:
                    self.assertEqual(act(), act())
                except Overtaken:
                    pass
                self.assertEqual([limits_of(house), list(plan)], [limits, [1] * len(limits[0])])


if __name__ == "__main__":
    unittest.main()
