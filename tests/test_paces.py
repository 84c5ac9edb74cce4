"""[90], [8], [10], and [2], [3], [4] of the paces of a house."""

import unittest
from fractions import Fraction
from functools import lru_cache
from random import Random

from hourneeds.clocks import Clock
from hourneeds.errors import Never
from hourneeds.fewest import fewest
from hourneeds.houses import House
from hourneeds.needs import Needs
from hourneeds.paces import are_never, least_pace, most_pace, never, pace_way
from hourneeds.people import are_stuck, least_people, most_people, stuck
from helpers import GREAT, drawn_clock, drawn_row, odd_values
from house_helpers import (
    FORTY, HouseCase, as_tuple, disturbed, drawn_limits, even_limits, even_small_limits, free_limits, great_limits,
    limits_of, made, paces_of, reached_by, simple_ways, small_limits, turns_and_value,
)

PACKED = even_limits(3, 2, 1, room=1)
NEEDED = [("need", 0), ("need", 2), ("need", 1)]
ROOMED = [("room", 2), ("room", 0), ("room", 1)]

# No two paces that are told apart in a test of great houses are nearer than this.
NEAR = Fraction(1, 10 ** 6)


def roomed_limits(seed, many):
    """So many houses of three or four hours whose needs ask for parts of people, some of them with rooms as small."""
    source = Random(seed)
    for at in range(many):
        hours = 3 + at % 2
        stays = drawn_clock(source, hours, 2).stays() if at % 4 == 0 else [hours - 1] * hours
        needs = [source.randint(2, 3) for _ in range(hours)]
        rooms = [source.choice([None, need, need, need + 1]) for need in needs] if at % 3 else [None] * hours
        yield stays, needs, rooms, [0] * hours, [None] * hours


@lru_cache(maxsize=None)
def cached_small():
    """Small houses, each with what its simple ways leave of paces."""
    found = [*small_limits(150, 240), *even_small_limits(), *roomed_limits(158, 100)]
    return [(limits, *paces_of(limits)) for limits in found]


class Small(HouseCase):
    def test_against_all_ways_that_come_to_no_mark_twice(self):
        without, open_ones, parts = 0, 0, 0
        for limits, least, most, alone in cached_small():
            house = made(limits)
            if alone or most is not None and least > most:
                without += 1
                self.shows_never(limits, never(house))
                self.assertIs(are_never(house, never(house)), True)
                for act in (least_pace, most_pace, pace_way):
                    self.never(Never, limits, lambda: act(house))
                continue
            self.assertIs(never(house), None)
            self.assertEqual([least_pace(house), most_pace(house)], [as_tuple(least), as_tuple(most)])
            self.check_way(limits, pace_way(house), least)
            open_ones += most is None
            parts += least.denominator > 1
        self.assertGreater(min(without, open_ones, parts), 20, (without, open_ones, parts))

    def check_way(self, limits, way, least):
        self.assertIs(way.__class__, list)
        self.assertLessEqual(len(way), 2000)
        days, worth = turns_and_value(limits, way)
        self.assertGreater(days, 0)
        self.assertEqual(Fraction(worth, days), least)

    def test_the_kind_of_what_is_told(self):
        for limits, least, most, alone in cached_small():
            house = made(limits)
            if never(house) is not None:
                continue
            for told in (least_pace(house), most_pace(house)):
                if told is not None:
                    self.assertEqual([told.__class__, *[part.__class__ for part in told]], [tuple, int, int])
                    self.assertEqual(as_tuple(Fraction(*told)), told)

    def test_the_numbers_of_people_are_the_paces_rounded(self):
        for limits, least, most, alone in cached_small():
            house = made(limits)
            if stuck(house) is None:
                self.assertIs(never(house), None)
                (above, below), told = least_pace(house), most_pace(house)
                self.assertEqual(least_people(house), -(-above // below))
                self.assertEqual(most_people(house), None if told is None else told[0] // told[1])


class Known(HouseCase):
    def test_nought(self):
        for limits in (even_limits(3, 2, 0), even_limits(1, 1, 0), even_limits(24, 7, 0, room=5)):
            self.assertEqual(least_pace(made(limits)), (0, 1))
        for limits in (even_limits(3, 2, 0, room=0), even_limits(24, 5, 0, door=0), even_limits(1, 1, 0, door=0)):
            self.assertEqual([least_pace(made(limits)), most_pace(made(limits))], [(0, 1), (0, 1)])

    def test_fractions_without_a_common_divisor(self):
        for hours, stay, need, pace in [(3, 2, 1, (3, 2)), (3, 2, 2, (3, 1)), (4, 2, 3, (6, 1)), (24, 7, 1, (24, 7)),
                                        (24, 18, 1, (4, 3)), (23, 22, 10 ** 30, None), (6, 4, 5, (15, 2))]:
            pace = pace or as_tuple(Fraction(hours * need, stay))
            house = made(even_limits(hours, stay, need, room=need))
            self.assertEqual([least_pace(house), most_pace(house)], [pace, pace])
            self.assertIs(most_pace(made(even_limits(hours, stay, need))), None)

    def test_none_where_no_way_has_turns_below_0(self):
        for limits in [even_limits(3, 2, 1), even_limits(24, 8, 10 ** 30, keep=10 ** 30),
                       ([2, 2, 2], [1, 1, 1], [9, None, None], [0] * 3, [None] * 3),
                       ([1, 2, 1], [0, 0, 0], [None, None, 7], [0] * 3, [None, None, 3])]:
            self.assertIs(most_pace(made(limits)), None)
            self.assertIs(never(made(limits)), None)

    def test_kept_begins_and_doors(self):
        limits = [1, 1], [0, 0], [None, None], [2, 3], [2, 9]
        self.assertEqual([least_pace(made(limits)), most_pace(made(limits))], [(5, 1), (11, 1)])

    def test_a_house_that_is_stuck_but_not_for_ever(self):
        for limits, pace in [(PACKED, (3, 2)), (even_limits(24, 23, 1, room=1), (24, 23)),
                             (even_limits(3, 2, 10 ** 30 + 1, room=10 ** 30 + 1), (3 * (10 ** 30 + 1), 2))]:
            house = made(limits)
            self.assertIsNot(stuck(house), None)
            self.assertIs(never(house), None)
            self.assertEqual([least_pace(house), most_pace(house)], [pace, pace])
            self.assertIs(are_never(house, stuck(house)), False)
            self.assertIs(are_stuck(house, stuck(house)), True)

    def test_least_pace_of_needs_alone_is_at_most_the_fewest_people(self):
        source = Random(151)
        for _ in range(40):
            hours = source.randint(1, 12)
            clock, needs = drawn_clock(source, hours), Needs(drawn_row(source, hours, 9))
            above, below = least_pace(House(clock, needs))
            self.assertEqual(fewest(clock, needs), -(-above // below))


class ShowsNever(HouseCase):
    def test_by_one_way(self):
        for limits in [even_limits(3, 2, 2, room=1), even_limits(3, 2, 0, keep=2, door=1),
                       even_limits(1, 1, 3, room=2), even_limits(24, 5, 10 ** 30, room=10 ** 30 - 1),
                       ([2, 2, 2], [0, 0, 0], [None, 3, None], [2, 2, 0], [None] * 3)]:
            house = made(limits)
            self.shows_never(limits, never(house))
            self.assertIs(are_never(house, never(house)), True)
        limits = [1, 1], [0, 3], [None, None], [4, 0], [2, None]
        self.assertEqual(len(never(made(limits))), 1)
        self.shows_never(limits, never(made(limits)))

    def test_by_two_ways_where_none_with_turns_of_0_shows_it(self):
        found = 0
        for limits, least, most, alone in cached_small():
            if not alone and most is not None and least > most:
                found += 1
                ways = never(made(limits))
                self.assertEqual(len(ways), 2)
                self.shows_never(limits, ways)
                self.never(Never, limits, lambda: pace_way(made(limits)))
        self.assertGreater(found, 5)

    def test_are_never_of_all_pairs_of_ways(self):
        seen = set()
        for limits, *_ in cached_small()[::2]:
            if len(limits[0]) > 3:
                continue
            house = made(limits)
            told = [(way, *turns_and_value(limits, way)) for way in simple_ways(limits)][:25]
            for way, days, worth in told:
                shown = days == 0 and worth > 0
                self.assertIs(are_never(house, [way]), shown)
                self.assertIs(are_never(house, [way * 2]), shown)
                seen.add((1, shown))
                for other, other_days, other_worth in told:
                    shown = days > 0 > other_days and Fraction(worth, days) > Fraction(other_worth, other_days)
                    self.assertIs(are_never(house, [way, other]), shown)
                    self.assertIs(are_never(house, [way * 3, other * 2]), shown)
                    seen.add((2, shown))
        self.assertEqual(len(seen), 4)

    def test_nothing_is_rounded(self):
        # 3/2 is no more than 3/2, though rounded apart they are 2 and 1.
        house = made(PACKED)
        self.assertIs(are_stuck(house, [NEEDED, ROOMED]), True)
        self.assertIs(are_never(house, [NEEDED, ROOMED]), False)
        # 5/2 is more than 4/2: rounded up and down 3 and 2; 3/2 is more than 1, and 4/2 than 3/2.
        for needs, rooms, shown in [([2, 2, 1], [1, 1, 2], True), ([1, 1, 1], [1, 1, 0], True),
                                    ([2, 1, 1], [1, 1, 1], True), ([1, 1, 0], [1, 1, 1], False)]:
            other = House(Clock([2, 2, 2]), Needs(needs), rooms=rooms)
            self.assertIs(are_never(other, [NEEDED, ROOMED]), shown)
            self.assertIs(are_never(other, [ROOMED, NEEDED]), False)
        # Great values whose quotients differ by less than any quotient of floats would show.
        great = 10 ** 30
        for more, shown in ((0, False), (1, True)):
            other = House(Clock([2, 2, 2]), Needs([great + more, great, great]), rooms=[great] * 3)
            self.assertIs(are_never(other, [NEEDED, ROOMED]), shown)

    def test_are_never_of_any_values(self):
        limits = even_limits(3, 2, 2, room=1)
        house = made(limits)
        alone = [("need", 0), ("room", 0)]
        self.assertIs(are_never(house, [alone]), True)
        self.assertIs(are_never(house, [NEEDED, ROOMED]), True)
        things = [(NEEDED, ROOMED), [NEEDED], [ROOMED], [], [[]], [NEEDED, ROOMED, NEEDED], [NEEDED, ROOMED, ROOMED],
                  (alone,), alone, [alone, alone], [alone, ROOMED], [NEEDED, alone], [tuple(alone)], [[alone]],
                  [NEEDED, tuple(ROOMED)], [tuple(NEEDED), ROOMED], [NEEDED, ROOMED[:2]], [NEEDED, []], [[], ROOMED],
                  [[("need", 0), ["room", 0]]], [[("need", False), ("room", False)]], [[("need", 0), ("door", 0)]],
                  [[("need", 3), ("room", 3)]], [[("Need", 0), ("room", 0)]], NEEDED, house, *odd_values()]
        for thing in things:
            self.assertIs(are_never(house, thing), False)
            self.assertIs(are_never(house, [thing]), thing == alone)
            self.assertIs(are_never(house, [NEEDED, thing]), False)


class Great(HouseCase):
    def check(self, limits):
        """Checks the paces from both sides: walks reach a most at a pace, and go on for ever at one beside it."""
        house = made(limits)
        if never(house) is not None:
            self.shows_never(limits, never(house))
            self.assertIs(are_never(house, never(house)), True)
            for act in (least_pace, most_pace, pace_way):
                self.never(Never, limits, lambda: act(house))
            return 1
        least, most = Fraction(*least_pace(house)), most_pace(house)
        self.assertEqual(as_tuple(least), least_pace(house))
        self.assertIsNot(reached_by(limits, least), None)
        self.assertIs(reached_by(limits, least - NEAR), None)
        days, worth = turns_and_value(limits, pace_way(house))
        self.assertEqual([days > 0, Fraction(worth, days)], [True, least])
        self.assertLessEqual(len(pace_way(house)), 2000)
        if most is None:
            self.assertIsNot(reached_by(limits, Fraction(FORTY)), None)
            return 0
        self.assertEqual(as_tuple(Fraction(*most)), most)
        self.assertIsNot(reached_by(limits, Fraction(*most)), None)
        self.assertIs(reached_by(limits, Fraction(*most) + NEAR), None)
        return 0

    def test_up_to_24_hours_and_limits_up_to_10_to_the_30(self):
        without = sum(self.check(limits) for limits in great_limits(152, 40))
        self.assertGreater(without, 0)

    def test_limits_each_drawn_by_itself(self):
        source = Random(153)
        for most in (3, 10 ** 30):
            for hours in (5, 8, 24):
                for _ in range(4):
                    self.check(free_limits(source, hours, most))

    def test_tight_houses(self):
        source = Random(154)
        for at in range(24):
            limits = drawn_limits(source, 12, source.choice([2, 10 ** 30]), source.choice([1, 2]), open_some=False)
            self.check(disturbed(source, limits, 3) if at % 3 == 0 else limits)

    def test_limits_that_were_told_may_be_greater_still(self):
        for limits in great_limits(155, 5):
            self.check((limits[0], *[[None if number is None else number * GREAT for number in row]
                                     for row in limits[1:]]))


class TurnedAbout(HouseCase):
    def test_turned_houses_have_the_same_paces(self):
        for limits in [*small_limits(156, 40), *great_limits(157, 6)]:
            house = made(limits)
            for by in (1, -1, 7):
                turned = house.turned(by)
                self.assertIs(never(turned) is None, never(house) is None)
                if never(house) is None:
                    self.assertEqual([least_pace(turned), most_pace(turned)], [least_pace(house), most_pace(house)])


class Kept(HouseCase):
    def test_asking_changes_nothing(self):
        house = made(PACKED)
        self.may_be_changed(lambda: pace_way(house))
        for act in (least_pace, most_pace, never, lambda house: are_never(house, [NEEDED, ROOMED])):
            self.assertEqual(act(house), act(house))
            self.assertEqual(limits_of(house), PACKED)

    def test_the_ways_that_are_told_may_be_changed(self):
        limits = even_limits(3, 2, 2, room=1)
        house = made(limits)
        self.may_be_changed(lambda: never(house))
        self.may_be_changed(lambda: never(house)[0])
        for act in (least_pace, most_pace, pace_way):
            self.may_be_changed(lambda: self.raised(Never, lambda: act(house)).ways)
            self.may_be_changed(lambda: self.raised(Never, lambda: act(house)).ways[0])
        thing = never(house)
        before = [list(way) for way in thing]
        self.assertIs(are_never(house, thing), True)
        self.assertEqual([thing, limits_of(house)], [before, limits])


if __name__ == "__main__":
    unittest.main()
