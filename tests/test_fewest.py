"""[41], [6], [10], and [2], [3], [4] of how few people are enough."""

import unittest
from itertools import combinations, permutations
from random import Random

from hourneeds.clocks import Clock
from hourneeds.errors import TooFew, Unlike
from hourneeds.fewest import enough, fewest, plan_for, ring_for
from hourneeds.needs import Needs
from hourneeds.plans import Plan
from hourneeds.rings import bound, is_ring
from helpers import (
    GREAT, Case, all_begins, count_rows, drawn_clock, drawn_row, falling_clock, small_clocks, there_of,
)

# Numbers of people of forty digits, as many as may be handed in.
FORTY = 10 ** 40 - 1


def searched(stays, rows):
    """For each row of needs the least number of people of a plan that is enough, found by going through all plans."""
    found, people, missing = {}, 0, set(rows)
    while missing:
        theres = {tuple(there_of(stays, begins)) for begins in all_begins(len(stays), people)}
        for row in missing:
            if any(all(one >= need for one, need in zip(there, row)) for there in theres):
                found[row] = people
        missing = missing - set(found)
        people += 1
    return found


def rings_of_different_hours(hours):
    """All of them, each begun at its least hour alone."""
    return [[some[0], *rest] for many in range(1, hours + 1) for some in combinations(range(hours), many)
            for rest in permutations(some[1:])]


def drawn_cases(many):
    """Clocks and needs of up to 24 hours, the numbers of some of them great."""
    source = Random(41)
    for _ in range(many):
        hours = source.choice([1, 2, 3, 5, 7, 12, 23, 24, 24])
        clock = drawn_clock(source, hours, source.randint(1, hours))
        yield clock, Needs(drawn_row(source, hours, source.choice([1, 2, 5, 100, 10 ** 30])))


class Small(Case):
    def check(self, clock, needs, people, rings):
        self.assertEqual(fewest(clock, needs), people)
        self.assertEqual(max(bound(clock, needs, ring) for ring in rings), people)
        ring = ring_for(clock, needs)
        if needs.total == 0:
            self.assertIs(ring, None)
        else:
            self.assertIs(is_ring(clock, needs, people, ring), True)
            self.assertEqual(bound(clock, needs, ring), people)
        for number in range(people + 3):
            self.assertIs(enough(clock, needs, number), number >= people)

    def test_against_a_search_through_all_plans_and_all_rings(self):
        for stays in small_clocks(4):
            hours = len(stays)
            clock, rings = Clock(stays), rings_of_different_hours(hours)
            rows = [tuple(row) for row in count_rows(hours, 4 if hours < 4 else 2)]
            for row, people in searched(stays, rows).items():
                self.check(clock, Needs(row), people, rings)

    def test_against_both_searches_with_five_hours(self):
        source = Random(5)
        rings = rings_of_different_hours(5)
        for _ in range(60):
            clock = drawn_clock(source, 5, source.randint(1, 4))
            rows = [tuple(drawn_row(source, 5, 3)) for _ in range(4)]
            for row, people in searched(clock.stays(), rows).items():
                self.check(clock, Needs(row), people, rings)

    def test_plans_of_small_clocks(self):
        for stays in small_clocks(3):
            clock = Clock(stays)
            for row in count_rows(len(stays), 3):
                needs = Needs(row)
                people = fewest(clock, needs)
                for number in range(people + 4):
                    if number < people:
                        with self.assertRaises(TooFew) as context:
                            plan_for(clock, needs, number)
                        self.assertIs(context.exception.__class__, TooFew)
                        self.assertIs(is_ring(clock, needs, number + 1, context.exception.ring), True)
                        continue
                    plan = plan_for(clock, needs, number)
                    self.assertIs(plan.__class__, Plan)
                    there = there_of(stays, list(plan))
                    self.assertEqual([plan.hours, plan.people], [len(stays), number])
                    self.assertTrue(all(one >= need for one, need in zip(there, row)))

    def test_one_hour(self):
        for need in (0, 1, 5, 10 ** 30, GREAT):
            clock, needs = Clock([1]), Needs([need])
            self.assertEqual(fewest(clock, needs), need)
            self.assertEqual(ring_for(clock, needs), [0] if need else None)
            self.assertEqual(list(plan_for(clock, needs, need + 2)), [need + 2])

    def test_known_clocks(self):
        for clock, row, people in [
            (Clock.even(24, 24), range(24), 23),
            (Clock.even(24, 1), range(24), sum(range(24))),
            (Clock.even(24, 8), [1] * 24, 3),
            (Clock.even(24, 7), [1] * 24, 4),
            (Clock.even(24, 5), [10 ** 30] * 24, (24 * 10 ** 30 + 4) // 5),
            (Clock.even(24, 23), [10 ** 30] * 24, (24 * 10 ** 30 + 22) // 23),
            (falling_clock(24), [1] * 24, 1),
            (falling_clock(24), range(24), 23),
            (Clock.even(4, 2), [2, 1, 2, 1], 4),
            (Clock.even(3, 2), [1, 1, 1], 2),
            (Clock.even(3, 2), [5, 1, 1], 5),
        ]:
            self.assertEqual(fewest(clock, Needs(list(row))), people)


class Great(Case):
    def check(self, clock, needs):
        people = fewest(clock, needs)
        ring = ring_for(clock, needs)
        if needs.total == 0:
            self.assertEqual([people, ring], [0, None])
        else:
            # The ring shows that no fewer are enough, the plan that so many are.
            self.assertIs(is_ring(clock, needs, people, ring), True)
            self.assertIs(is_ring(clock, needs, people + 1, ring), False)
            self.assertLessEqual(len(ring), 2000)
        for number in (people, people + 1, 2 * people + 3, max(people, FORTY)):
            plan = plan_for(clock, needs, number)
            self.assertEqual([plan.people, plan.is_enough(clock, needs)], [number, True])
            self.assertIs(enough(clock, needs, number), True)
        for number in {0, people // 2, people - 1} - {people, -1}:
            self.assertIs(enough(clock, needs, number), False)
            with self.assertRaises(TooFew) as context:
                plan_for(clock, needs, number)
            self.assertIs(is_ring(clock, needs, number + 1, context.exception.ring), True)
            self.assertEqual(list(vars(context.exception)), ["ring"])

    def test_clocks_of_up_to_24_hours(self):
        for clock, needs in drawn_cases(150):
            self.check(clock, needs)

    def test_regular_clocks_with_great_needs(self):
        source = Random(6)
        for clock in (falling_clock(24), falling_clock(24).turned(7), *[Clock.even(24, stay) for stay in range(1, 25)]):
            self.check(clock, Needs([source.randint(0, 10 ** 30) for _ in range(24)]))
            self.check(clock, Needs([10 ** 30 - source.randint(0, 1) for _ in range(24)]))
            self.check(clock, Needs([2 ** (4 * hour) for hour in range(24)]))
            self.check(clock, Needs([0] * 24).with_need(source.randrange(24), 10 ** 30))

    def test_clocks_that_are_longer_still(self):
        source = Random(7)
        for least in (1, 10, 40):
            self.check(drawn_clock(source, 48, least), Needs([source.randint(0, 10 ** 30) for _ in range(48)]))

    def test_needs_that_were_told_may_be_greater_still(self):
        clock, needs = Clock([2, 2, 3, 2, 2]), Needs([3, 1, 0, 2, 5])
        for many in (1, 7, 10 ** 30):
            self.check(clock, many * GREAT * (needs + needs))


class TurnedAbout(Case):
    def test_turned_clocks_and_needs_have_the_same_fewest(self):
        for clock, needs in drawn_cases(60):
            people = fewest(clock, needs)
            for by in (1, -1, 5, GREAT):
                turned_clock, turned_needs = clock.turned(by), needs << by
                self.assertEqual(fewest(turned_clock, turned_needs), people)
                self.assertIs(enough(turned_clock, turned_needs, people), True)
                plan = plan_for(clock, needs, people).turned(by)
                self.assertIs(plan.is_enough(turned_clock, turned_needs), True)
                if people:
                    self.assertIs(enough(turned_clock, turned_needs, people - 1), False)
                    ring = [(hour - by) % clock.hours for hour in ring_for(clock, needs)]
                    self.assertIs(is_ring(turned_clock, turned_needs, people, ring), True)


class NoNeeds(Case):
    def test_nobody_is_enough(self):
        for stays in small_clocks(4) + [[24] * 24, [1] * 24]:
            clock, needs = Clock(stays), Needs([0] * len(stays))
            self.assertEqual(fewest(clock, needs), 0)
            self.assertIs(ring_for(clock, needs), None)
            self.assertIs(enough(clock, needs, 0), True)
            self.assertEqual(list(plan_for(clock, needs, 0)), [0] * len(stays))
            self.assertEqual(plan_for(clock, needs, FORTY).people, FORTY)


class Kept(Case):
    def test_unlike(self):
        for hours, others in [(1, 2), (2, 1), (3, 4), (24, 23), (24, 48)]:
            for number in (0, 1):
                clock, needs = Clock.even(hours, 1), Needs([number] * others)
                self.raises(Unlike, lambda: fewest(clock, needs))
                self.raises(Unlike, lambda: ring_for(clock, needs))
                for people in (0, 1, FORTY):
                    self.raises(Unlike, lambda: enough(clock, needs, people))
                    self.raises(Unlike, lambda: plan_for(clock, needs, people))

    def test_nothing_that_is_passed_is_changed(self):
        clock, needs = Clock([2, 2, 3, 2]), Needs([3, 1, 0, 2])
        for act in (lambda: fewest(clock, needs), lambda: ring_for(clock, needs), lambda: enough(clock, needs, 4),
                    lambda: plan_for(clock, needs, 9)):
            self.assertEqual(act(), act())
            self.assertEqual([list(clock), list(needs)], [[2, 2, 3, 2], [3, 1, 0, 2]])

    def test_rings_that_are_told_may_be_changed(self):
        clock, needs = Clock.even(3, 2), Needs([1, 1, 1])
        self.may_be_changed(lambda: ring_for(clock, needs))

        def too_few():
            with self.assertRaises(TooFew) as context:
                plan_for(clock, needs, 1)
            return context.exception.ring

        self.may_be_changed(too_few)
        self.assertEqual(fewest(clock, needs), 2)


if __name__ == "__main__":
    unittest.main()
