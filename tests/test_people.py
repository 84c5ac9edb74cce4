"""[52], [5], [6], [10], and [2], [3], [4] of the numbers of people of a house."""

import unittest
from functools import lru_cache
from random import Random

from hourneeds.clocks import Clock
from hourneeds.errors import Impossible, Stuck
from hourneeds.fewest import fewest
from hourneeds.houses import House
from hourneeds.needs import Needs
from hourneeds.people import (
    are_stuck, is_against, is_possible, least_people, most_people, some_plan, stuck, way_against,
)
from hourneeds.plans import Plan
from helpers import GREAT, count_rows, drawn_clock, drawn_row, falling_clock, odd_values, small_clocks
from house_helpers import (
    FORTY, HouseCase, disturbed, drawn_limits, even_limits, even_small_limits, free_limits, great_limits, limits_of,
    made, plans_of, simple_ways, small_limits, turns_and_value,
)

# Beyond the numbers of people of small houses that are gone through.
MOST = 10

PACKED = even_limits(3, 2, 1, room=1)
NEEDED = [("need", 0), ("need", 2), ("need", 1)]
ROOMED = [("room", 2), ("room", 0), ("room", 1)]


@lru_cache(maxsize=None)
def cached_small():
    """Small houses, each with its simple ways and the numbers of people, up to MOST, that have plans."""
    found = []
    for limits in [*small_limits(70, 150), *even_small_limits()]:
        possible = [people for people in range(MOST + 1) if plans_of(limits, people)]
        found.append((limits, simple_ways(limits), possible))
    return found


def bounds_of(limits, ways):
    """The greatest bound of ways with turns above 0, the least one of those below 0, and whether one shows alone."""
    least, most, alone = 0, None, False
    for way in ways:
        days, worth = turns_and_value(limits, way)
        if days > 0:
            least = max(least, -(-worth // days))
        elif days < 0:
            allowed = -worth // -days
            most = allowed if most is None else min(most, allowed)
        elif worth > 0:
            alone = True
    return least, most, alone


class Small(HouseCase):
    def test_against_a_search_through_all_plans(self):
        without = 0
        for limits, ways, possible in cached_small():
            house = made(limits)
            least, most, alone = bounds_of(limits, ways)
            self.assertLess(least, MOST)
            if not possible:
                without += 1
                self.assertTrue(alone or most is not None and least > most)
                self.stuck(Stuck, limits, lambda: least_people(house))
                self.stuck(Stuck, limits, lambda: most_people(house))
                self.shows_stuck(limits, stuck(house))
                self.assertIs(are_stuck(house, stuck(house)), True)
                continue
            self.assertIs(stuck(house), None)
            self.assertEqual([least_people(house), most_people(house)], [least, most])
            self.assertEqual(possible, list(range(least, min(most, MOST) + 1 if most is not None else MOST + 1)))
        self.assertGreater(without, 20)

    def test_each_number_of_people(self):
        for limits, _, possible in cached_small():
            house = made(limits)
            for people in range(MOST + 1):
                self.check_number(house, limits, people, people in possible)

    def test_great_numbers_of_people(self):
        for limits, ways, possible in cached_small():
            house = made(limits)
            for people in (GREAT // 10, FORTY):
                self.check_number(house, limits, people, bool(possible) and bounds_of(limits, ways)[1] is None)

    def check_number(self, house, limits, people, expected):
        self.assertIs(is_possible(house, people), expected)
        if expected:
            self.assertIs(way_against(house, people), None)
            plan = some_plan(house, people)
            self.assertIs(plan.__class__, Plan)
            self.is_plan(limits, people, plan)
            self.assertIs(house.allows(plan), True)
            return
        self.is_against(limits, people, way_against(house, people))
        self.assertIs(is_against(house, people, way_against(house, people)), True)
        self.impossible(Impossible, limits, people, lambda: some_plan(house, people))

    def test_a_plan_exists_just_if_no_way_is_against_it(self):
        for limits, ways, possible in cached_small():
            told = [turns_and_value(limits, way) for way in ways]
            for people in range(MOST + 1):
                kept = all(days * people >= worth for days, worth in told)
                self.assertIs(is_possible(made(limits), people), kept)
                self.assertEqual(kept, people in possible)

    def test_against_a_search_with_five_hours(self):
        source = Random(71)
        for at in range(40):
            limits = drawn_limits(source, 5, 1, 1, open_some=at % 2 == 0)
            if at % 2:
                limits = disturbed(source, limits, 3)
            house = made(limits)
            for people in range(8):
                self.assertIs(is_possible(house, people), plans_of(limits, people) != [])


class MostPeople(HouseCase):
    def test_none_where_no_way_has_turns_below_0(self):
        for limits in [even_limits(3, 2, 1), even_limits(1, 1, 5), even_limits(24, 8, 10 ** 30, keep=10 ** 30),
                       ([2, 2, 2], [1, 1, 1], [9, None, None], [0] * 3, [None] * 3),
                       ([2, 2, 2], [1, 1, 1], [None] * 3, [0] * 3, [5, 5, None]),
                       ([1, 2, 1], [0, 0, 0], [None, None, 7], [0] * 3, [None, None, 3])]:
            self.assertIs(most_people(made(limits)), None)
            self.assertIs(is_possible(made(limits), FORTY), True)
            self.is_plan(limits, FORTY, some_plan(made(limits), FORTY))

    def test_a_greatest_one(self):
        for limits, most in [(even_limits(1, 1, 0, room=5), 5), (even_limits(1, 1, 0, door=0), 0),
                             (even_limits(3, 2, 0, room=5), 7), (even_limits(4, 1, 0, room=5), 20),
                             (even_limits(24, 24, 0, room=10 ** 30), 10 ** 30), (even_limits(3, 1, 0, door=FORTY), 3 * FORTY),
                             (([2, 2, 2], [0] * 3, [5, None, None], [0] * 3, [None, 4, None]), 9)]:
            self.assertEqual(most_people(made(limits)), most)
            self.assertIs(is_possible(made(limits), most), True)
            self.assertIs(is_possible(made(limits), most + 1), False)

    def test_least_and_most_are_the_same(self):
        for limits, people in [(even_limits(3, 1, 2, room=2), 6), (even_limits(2, 2, 0, keep=4, door=4), 8),
                               (even_limits(1, 1, 10 ** 30, room=10 ** 30), 10 ** 30),
                               (even_limits(2, 1, 0, room=0), 0)]:
            self.assertEqual([least_people(made(limits)), most_people(made(limits))], [people, people])


class ShowsStuck(HouseCase):
    def test_by_one_way(self):
        for limits in [even_limits(3, 2, 2, room=1), even_limits(3, 2, 0, keep=2, door=1),
                       even_limits(1, 1, 3, room=2), even_limits(24, 5, 10 ** 30, room=10 ** 30 - 1),
                       ([2, 2, 2], [0, 0, 0], [None, 3, None], [2, 2, 0], [None] * 3)]:
            ways = stuck(made(limits))
            self.shows_stuck(limits, ways)
            if len(ways) == 1:
                self.assertIs(are_stuck(made(limits), ways), True)
            self.stuck(Stuck, limits, lambda: least_people(made(limits)))

    def test_by_one_way_alone_where_no_way_has_turns_below_0(self):
        limits = [1, 1], [0, 3], [None, None], [4, 0], [2, None]
        ways = stuck(made(limits))
        self.assertEqual(len(ways), 1)
        self.shows_stuck(limits, ways)

    def test_by_two_ways(self):
        for limits in [PACKED, even_limits(3, 2, 10 ** 30 + 1, room=10 ** 30 + 1), even_limits(24, 23, 1, room=1)]:
            ways = stuck(made(limits))
            self.assertEqual(len(ways), 2)
            self.shows_stuck(limits, ways)
            self.assertIs(are_stuck(made(limits), ways), True)
            for act in (least_people, most_people):
                self.stuck(Stuck, limits, lambda: act(made(limits)))
            for people in (0, 1, 2, FORTY):
                self.impossible(Impossible, limits, people, lambda: some_plan(made(limits), people))

    def test_are_stuck_of_all_pairs_of_ways(self):
        seen = set()
        for limits, ways, _ in cached_small():
            if len(limits[0]) > 2:
                continue
            house = made(limits)
            told = [(way, *turns_and_value(limits, way)) for way in ways]
            for way, days, worth in told:
                shown = days == 0 and worth > 0
                self.assertIs(are_stuck(house, [way]), shown)
                self.assertIs(are_stuck(house, [way * 2]), shown)
                seen.add((1, shown))
                for other, other_days, other_worth in told:
                    shown = days > 0 > other_days and -(-worth // days) > other_worth // other_days
                    self.assertIs(are_stuck(house, [way, other]), shown)
                    seen.add((2, shown))
        self.assertEqual(len(seen), 4)

    def test_are_stuck_of_ways_that_are_not_rounded_apart(self):
        # 3/2 is no more than 3/2, but 2 is more than 1; and of 4/2 and 4/2 none is more.
        self.assertIs(are_stuck(made(PACKED), [NEEDED, ROOMED]), True)
        self.assertIs(are_stuck(made(PACKED), [ROOMED, NEEDED]), False)
        self.assertIs(are_stuck(made(even_limits(3, 2, 2, room=2)), [NEEDED, ROOMED]), False)
        self.assertIs(are_stuck(made(PACKED), [NEEDED * 2, ROOMED * 3]), True)

    def test_are_stuck_of_any_values(self):
        house = made(PACKED)
        things = [(NEEDED, ROOMED), [NEEDED], [ROOMED], [], [[]], [NEEDED, ROOMED, NEEDED], [NEEDED, ROOMED, ROOMED],
                  [NEEDED, tuple(ROOMED)], [tuple(NEEDED), ROOMED], [NEEDED, NEEDED], NEEDED, ROOMED,
                  [NEEDED, [("door", 0)]], [NEEDED, ROOMED[:2]], [NEEDED[:2], ROOMED], {0: NEEDED, 1: ROOMED},
                  [NEEDED, None], [None, ROOMED], [[], ROOMED], [NEEDED, ROOMED, None], iter([NEEDED, ROOMED]),
                  [[*NEEDED, ("need", True)], ROOMED]]
        for thing in [*things, *odd_values(), *[[value] for value in odd_values()],
                      *[[NEEDED, value] for value in odd_values()], *[[value, ROOMED] for value in odd_values()]]:
            self.assertIs(are_stuck(house, thing), False)
        self.assertIs(are_stuck(house, [NEEDED, ROOMED]), True)

    def test_are_stuck_of_a_house_that_has_plans(self):
        house = made(even_limits(3, 2, 1, room=2))
        for thing in ([NEEDED, ROOMED], [NEEDED], [[("need", 0), ("room", 0)]], *odd_values()):
            self.assertIs(are_stuck(house, thing), False)

    def test_long_values(self):
        house = made(even_limits(24, 8, 2, room=1))
        way = [("need", 0), ("room", 0)]
        self.assertIs(are_stuck(house, [way * 3000]), True)
        self.assertIs(are_stuck(house, [way] * 3000), False)
        self.assertIs(are_stuck(house, [[("keep", 0)]] * 5000), False)


class Against(HouseCase):
    def test_is_against_of_all_simple_ways(self):
        seen = set()
        for limits, ways, _ in cached_small()[:120]:
            house = made(limits)
            for way in ways:
                days, worth = turns_and_value(limits, way)
                for people in (0, 1, 2, 5, GREAT):
                    self.assertIs(is_against(house, people, way), worth > days * people)
                    self.assertIs(is_against(house, people, way * 2), worth > days * people)
                    self.assertIs(is_against(house, people, tuple(way)), False)
                    seen.add((days > 0, days < 0, worth > days * people))
        self.assertEqual(len(seen), 6)

    def test_just_meeting_is_not_against(self):
        house = made(even_limits(3, 2, 2, room=2))
        for way in (NEEDED, ROOMED, [("need", 0), ("room", 0)]):
            self.assertIs(is_against(house, 3, way), False)
        self.assertEqual([is_against(house, 2, NEEDED), is_against(house, 4, ROOMED)], [True, True])
        self.assertEqual([is_against(house, 4, NEEDED), is_against(house, 2, ROOMED)], [False, False])

    def test_is_against_of_any_values(self):
        for house in (made(PACKED), made(even_limits(1, 1, 1))):
            for people in (0, 1, FORTY):
                for thing in [0, 1, [], [[]], [NEEDED], ("need", 0), [("need", True)], [["need", 0]], [("need", 7)],
                              [("keep", 0), None], [("need", 0), ("need", 0), None], *odd_values()]:
                    self.assertIs(is_against(house, people, thing), False)
        self.assertIs(is_against(made(even_limits(1, 1, 1)), 0, [("need", 0)]), True)
        self.assertIs(is_against(made(even_limits(1, 1, 1)), 1, [("need", 0)]), False)


class NeedsAlone(HouseCase):
    def check(self, clock, needs):
        house = House(clock, needs)
        self.assertEqual(least_people(house), fewest(clock, needs))
        self.assertIs(most_people(house), None)
        self.assertIs(stuck(house), None)

    def test_least_people_is_fewest(self):
        for stays in small_clocks(3):
            for row in count_rows(len(stays), 3):
                self.check(Clock(stays), Needs(row))
        source = Random(72)
        for hours in (5, 12, 23, 24, 24):
            for most in (1, 5, 10 ** 30):
                clock = drawn_clock(source, hours, source.randint(1, hours))
                self.check(clock, Needs(drawn_row(source, hours, most)))
        self.check(falling_clock(24), Needs([source.randint(0, 10 ** 30) for _ in range(24)]))

    def test_kept_begins_alone(self):
        for kept in ([0, 0, 0], [3, 0, 1], [10 ** 30] * 3):
            house = House(Clock.even(3, 2), Needs([1, 1, 0]), kept=kept)
            self.assertEqual(least_people(house), max(1, sum(kept)))


class Great(HouseCase):
    def check(self, limits):
        house = made(limits)
        ways = stuck(house)
        if ways is not None:
            self.shows_stuck(limits, ways)
            self.assertIs(are_stuck(house, ways), True)
            self.stuck(Stuck, limits, lambda: least_people(house))
            for people in (0, 10 ** 30, FORTY):
                self.impossible(Impossible, limits, people, lambda: some_plan(house, people))
            return False
        least, most = least_people(house), most_people(house)
        # Plans show that so many people are possible, ways that more or fewer are not.
        possible = {least, least + 1, least + FORTY} if most is None else {least, (least + most) // 2, most}
        for people in possible:
            self.assertIs(is_possible(house, people), True)
            self.is_plan(limits, people, some_plan(house, people))
        impossible = {0, least // 2, least - 1} - {-1, least}
        for people in impossible | ({most + 1, 2 * most + 1, most + FORTY} if most is not None else set()):
            self.assertIs(is_possible(house, people), False)
            self.is_against(limits, people, way_against(house, people))
            self.impossible(Impossible, limits, people, lambda: some_plan(house, people))
        return True

    def test_up_to_24_hours_and_limits_up_to_10_to_the_30(self):
        kept = [self.check(limits) for limits in great_limits(73, 80)]
        self.assertTrue(20 < kept.count(True) < 80)

    def test_limits_each_drawn_by_itself(self):
        source = Random(74)
        for most in (3, 10 ** 30):
            for _ in range(15):
                self.check(free_limits(source, 24, most))

    def test_regular_houses(self):
        for stay in range(1, 25):
            for need, room in [(10 ** 30 - 1, 10 ** 30), (10 ** 30, 10 ** 30), (1, 1), (7, 8)]:
                self.check(even_limits(24, stay, need, room=room))
                self.check(even_limits(24, stay, need, room=room, door=need // stay + 1))

    def test_limits_that_were_told_may_be_greater_still(self):
        for limits in great_limits(75, 8):
            self.check((limits[0], *[[None if number is None else number * GREAT for number in row]
                                     for row in limits[1:]]))


class TurnedAbout(HouseCase):
    def test_turned_houses_have_the_same_numbers(self):
        for limits in [*small_limits(76, 60), *great_limits(77, 12)]:
            house = made(limits)
            for by in (1, -1, 5, GREAT):
                turned = house.turned(by)
                self.assertIs(stuck(turned) is None, stuck(house) is None)
                if stuck(house) is None:
                    self.assertEqual([least_people(turned), most_people(turned)],
                                     [least_people(house), most_people(house)])


class Kept(HouseCase):
    def test_nothing_that_is_passed_is_changed(self):
        for limits in [PACKED, even_limits(3, 2, 1, room=2), *great_limits(78, 4)]:
            house = made(limits)
            for act in (stuck, lambda house: is_possible(house, 3), lambda house: way_against(house, 0),
                        lambda house: way_against(house, FORTY)):
                self.assertEqual(act(house), act(house))
                self.assertEqual(limits_of(house), limits)
        house = made(even_limits(3, 2, 1, room=2))
        for act in (least_people, most_people, lambda house: some_plan(house, 2)):
            self.assertEqual(act(house), act(house))
        thing = [[("need", 0), ("need", 2), ("need", 1)], [("room", 2), ("room", 0), ("room", 1)]]
        are_stuck(made(PACKED), thing)
        is_against(made(PACKED), 1, thing[0])
        self.assertEqual(thing, [NEEDED, ROOMED])

    def test_what_is_told_may_be_changed(self):
        house, one = made(PACKED), made(even_limits(3, 2, 2, room=1))
        self.may_be_changed(lambda: way_against(house, 1))
        self.may_be_changed(lambda: self.raised(Impossible, lambda: some_plan(house, 1)).way)
        for asked in (house, one):
            self.may_be_changed(lambda: stuck(asked))
            self.may_be_changed(lambda: self.raised(Stuck, lambda: least_people(asked)).ways)
            self.may_be_changed(lambda: self.raised(Stuck, lambda: most_people(asked)).ways)
            for place in range(len(stuck(asked))):
                self.may_be_changed(lambda: stuck(asked)[place])


if __name__ == "__main__":
    unittest.main()
