"""[1] and [5] to [10] over the whole program: what its parts tell of the same houses agrees."""

import unittest
from fractions import Fraction
from math import ceil, floor
from random import Random

from hourneeds.books import Book
from hourneeds.changes import binding, free_need, least_need, more_for, stay_gain
from hourneeds.costs import cheap_people, cheap_plan, cost_of, least_cost
from hourneeds.days import days_people, fewest_days, in_days
from hourneeds.desk import Desk
from hourneeds.endless import Endless
from hourneeds.errors import Impossible, NoDays, Refused, TooFew
from hourneeds.fewest import enough, fewest, plan_for, ring_for
from hourneeds.houses import House
from hourneeds.listing import count_plans, plan_at, plan_number, plans
from hourneeds.needs import Needs
from hourneeds.notation import show_house, show_way
from hourneeds.paces import least_pace, most_pace, never, pace_way
from hourneeds.people import is_possible, least_people, most_people, some_plan, stuck, way_against
from hourneeds.plans import Plan
from hourneeds.prices import are_prices, prices_for, worth
from hourneeds.readers import read_house, read_way
from hourneeds.rings import bound, is_ring
from hourneeds.spans import begin_range, is_only, plan_with, span_range, there_range, tight
from hourneeds.sums import earliest, latest, sum_ranges
from hourneeds.ways import bound_of, is_way, ring_way, turns, value
from helpers import GREAT, drawn_clock, drawn_row
from house_helpers import (
    HouseCase, as_tuple, even_limits, great_limits, limits_of, made, plans_of, simple_ways, small_limits, turns_and_value,
)
from test_books import drawn_deed
from test_costs import costs_of, small_dues
from test_prices import made_up


def possible_houses(seed, many, most_hours=4):
    """Small houses that have a plan, each with its limits and its least number of people."""
    for limits in small_limits(seed, many, most_hours):
        house = made(limits)
        if stuck(house) is None:
            yield limits, house, least_people(house)


class Numbers(HouseCase):
    def test_a_plan_exists_just_if_no_way_is_against_it(self):
        for limits in small_limits(220, 60, 3):
            house = made(limits)
            told = [turns_and_value(limits, way) for way in simple_ways(limits)]
            for people in range(7):
                kept = all(days * people >= worth for days, worth in told)
                self.assertIs(is_possible(house, people), kept)
                self.assertIs(count_plans(house, people) > 0, kept)
                self.assertIs(way_against(house, people) is None, kept)
                try:
                    self.is_plan(limits, people, some_plan(house, people))
                    self.assertTrue(kept)
                except Impossible as error:
                    self.is_against(limits, people, error.way)
                    self.assertFalse(kept)


class Fewest(HouseCase):
    def check(self, clock, needs):
        people, house = fewest(clock, needs), House(clock, needs)
        self.assertEqual([least_people(house), most_people(house), stuck(house), never(house)], [people, None, None, None])
        self.assertEqual(ceil(Fraction(*least_pace(house))), people)
        self.assertEqual([days_people(house, 1), fewest_days(house)], [(people, None), 1])
        self.assertEqual([Book(house).needed(), Desk(house).execute("people")], [people, f"{people} -"])
        self.assertIs(plan_for(clock, needs, people).is_enough(clock, needs), True)
        self.assertIs(house.allows(plan_for(clock, needs, people)), True)
        self.assertEqual(Endless(house, (people, 1)).plan().lacking(clock, needs), [])
        ring = ring_for(clock, needs)
        if ring is None:
            self.assertEqual([people, needs.total], [0, 0])
            return
        self.assertIs(is_ring(clock, needs, people, ring), True)
        way = ring_way(house, ring)
        self.assertIs(is_way(house, way), True)
        self.assertEqual([bound(clock, needs, ring), bound_of(house, way), enough(clock, needs, people - 1)],
                         [people, people, False])
        self.impossible(Impossible, limits_of(house), people - 1, lambda: earliest(house, people - 1))
        with self.assertRaises(TooFew) as context:
            plan_for(clock, needs, people - 1)
        self.assertGreater(bound(clock, needs, context.exception.ring), people - 1)
        # The least pace is shown by a way that no ring is above.
        shown = pace_way(house)
        least = Fraction(value(house, shown), turns(house, shown))
        self.assertGreaterEqual(least, Fraction(value(house, way), turns(house, way)))

    def test_from_all_sides(self):
        source = Random(221)
        for hours in [*range(1, 13), 24]:
            for most in (2, 9, 10 ** 30):
                clock = drawn_clock(source, hours, source.randint(1, hours))
                self.check(clock, Needs(drawn_row(source, hours, most)))
        self.check(drawn_clock(source, 5), Needs([0] * 5))


class Closed(HouseCase):
    def test_two_plans_and_all_between_the_latest_and_the_earliest_one(self):
        for _, house, least in possible_houses(222, 40):
            for people in range(least, 6):
                told = plans(house, people)
                if not told:
                    continue
                late, early = latest(house, people), earliest(house, people)
                for one in told:
                    self.assertTrue(late.within(one) and one.within(early))
                    for other in told[:8]:
                        self.assertIn(one & other, told)
                        self.assertIn(one | other, told)
                self.assertEqual(is_only(house, people), len(told) == 1)
                columns = list(zip(*[plan.sums() for plan in told]))
                self.assertEqual(sum_ranges(house, people), [(min(column), max(column)) for column in columns])

    def test_each_number_from_the_least_to_the_greatest(self):
        for _, house, least in possible_houses(223, 24):
            people = least + 1 if is_possible(house, least + 1) else least
            told = [list(plan) * 2 for plan in plans(house, people)]
            for mark in range(house.hours):
                for length in range(1, house.hours + 1):
                    begun = {sum(begins[mark:mark + length]) for begins in told}
                    lowest, highest = span_range(house, people, mark, length)
                    self.assertEqual(begun, set(range(lowest, highest + 1)))
                    for number in begun:
                        plan = plan_with(house, people, mark, length, number)
                        self.assertEqual(sum((list(plan) * 2)[mark:mark + length]), number)
                        self.assertIs(house.allows(plan), True)


class TurnedAbout(HouseCase):
    def test_the_same_numbers_everywhere(self):
        source = Random(224)
        for limits, house, least in possible_houses(225, 40):
            hours, dues = house.hours, small_dues(source, len(limits[0]))
            for by in (1, -1, 2):
                other = house.turned(by)
                self.assertEqual(self.numbers(other, least, dues[by % hours:] + dues[:by % hours]),
                                 self.numbers(house, least, dues))
                self.assertEqual(sorted((word, (hour + by) % hours) for word, hour in tight(other, least)),
                                 tight(house, least))
                self.assertEqual(sorted((hour + by) % hours for hour in binding(other)), binding(house))
                for hour in range(hours):
                    self.assertEqual(self.at(other, least, (hour - by) % hours), self.at(house, least, hour))

    def numbers(self, house, people, dues):
        return [least_people(house), most_people(house), least_pace(house), most_pace(house), fewest_days(house),
                days_people(house, GREAT), count_plans(house, people), least_cost(house, people, dues),
                cheap_people(house, dues), worth(house, people, prices_for(house, people, dues)), is_only(house, people),
                Book(house).needed(), Desk(house).execute("pace"), Endless(house, least_pace(house)).period]

    def at(self, house, people, hour):
        return [begin_range(house, people, hour), there_range(house, people, hour), free_need(house, hour),
                least_need(house, hour), stay_gain(house, hour), more_for(house, "need", hour, 2),
                Desk(house).execute(f"begins {hour}"), Desk(house).execute(f"there {hour}"),
                [span_range(house, people, hour, length) for length in range(1, house.hours + 1)]]

    def test_great_houses(self):
        for limits in great_limits(226, 6):
            house, turned = made(limits), made(limits).turned(7)
            self.assertEqual([stuck(turned) is None, never(turned) is None], [stuck(house) is None, never(house) is None])
            if stuck(house) is None:
                self.assertEqual([least_people(turned), most_people(turned)], [least_people(house), most_people(house)])
            if never(house) is None:
                self.assertEqual([least_pace(turned), most_pace(turned)], [least_pace(house), most_pace(house)])


class Prices(HouseCase):
    def test_costs_and_prices_of_listed_plans(self):
        source = Random(227)
        for limits, house, least in possible_houses(228, 60, 5):
            dues = small_dues(source, house.hours)
            for people in range(least, 5):
                told = plans(house, people)
                if not told:
                    continue
                costs = [cost_of(plan, dues) for plan in told]
                self.assertEqual(costs, [costs_of(list(plan), dues) for plan in told])
                prices = prices_for(house, people, dues)
                self.assertEqual([least_cost(house, people, dues), worth(house, people, prices)], [min(costs), min(costs)])
                self.assertEqual(costs[plan_number(house, people, cheap_plan(house, people, dues))], min(costs))
                for other in (made_up(source, limits, prices), prices_for(house, least, dues)):
                    self.assertIs(are_prices(house, dues, other), True)
                    self.assertLessEqual(worth(house, people, other), min(costs))


class Days(HouseCase):
    def test_days_in_one_against_paces_and_endless_plans(self):
        closed = 0
        for limits in [*small_limits(229, 60, 4), even_limits(3, 2, 1, room=1), even_limits(4, 3, 2, room=2),
                       even_limits(5, 4, 1, room=1)]:
            house = made(limits)
            if never(house) is not None:
                continue
            least, most = Fraction(*least_pace(house)), most_pace(house)
            most = None if most is None else Fraction(*most)
            for days in range(1, 6):
                whole = in_days(house, days)
                if most is not None and ceil(days * least) > floor(days * most):
                    closed += 1
                    self.assertIsNot(stuck(whole), None)
                    self.raised(NoDays, lambda: days_people(house, days))
                    continue
                self.assertEqual(days_people(house, days), (least_people(whole), most_people(whole)))
                people = least_people(whole)
                endless = Endless(house, as_tuple(Fraction(people, days)))
                begins = [endless(hour) for hour in range(house.hours * days)]
                self.is_plan(limits_of(whole), people, Plan(begins))
                self.is_plan(limits_of(whole), people, some_plan(whole, people))
                if house.hours * days <= 6:
                    self.assertIn(begins, plans_of(limits_of(whole), people))
        self.assertGreater(closed, 3)

    def test_a_plan_of_one_period_is_listed_among_the_plans_of_its_days(self):
        for limits in (even_limits(2, 1, 1), even_limits(1, 1, 1, room=4), even_limits(2, 2, 1, room=2, door=1)):
            house = made(limits)
            for pace in (least_pace(house), (3, 2)):
                endless = Endless(house, pace) if Fraction(*pace) >= Fraction(*least_pace(house)) else None
                if endless is None:
                    continue
                plan, whole = endless.plan(), in_days(house, endless.period)
                number = plan_number(whole, plan.people, plan)
                self.assertEqual(plan_at(whole, plan.people, number), plan)


class Led(HouseCase):
    def test_a_book_and_a_desk_led_by_the_same_deeds(self):
        source, refused = Random(230), 0
        for limits, house, least in possible_houses(231, 40):
            book, desk = Book(house), Desk(house)
            for _ in range(12):
                deed = word, hour, number = drawn_deed(source, house.hours)
                if word == "stay" and number != book["stay", hour] + 1:
                    continue
                before = book.needed()
                if word == "stay":
                    gain = stay_gain(book.house, hour)
                    more = None if gain is None else -gain
                else:
                    more = more_for(book.house, word, hour, number)
                line = f"{word} {hour} " + ("-" if number is None else str(number))
                if more is None:
                    refused += 1
                    self.raises(Refused, lambda: book.do(deed), deed=deed)
                    self.assertEqual(desk.execute(line), "refused")
                else:
                    book.do(deed)
                    self.assertEqual([desk.execute(line), book.needed()], ["ok", before + more])
                self.assertEqual(desk.execute("house"), show_house(book.house))
                self.assertEqual(read_house(desk.execute("house")), book.house)
                self.assertEqual(desk.execute("plan"), " ".join(str(many) for many in book.plan()))
        self.assertGreater(refused, 20)


class Texts(HouseCase):
    def test_houses_and_ways_read_back_tell_the_same(self):
        for limits in [*small_limits(232, 40), *great_limits(233, 4)]:
            house = read_house(show_house(made(limits)))
            self.assertEqual(house, made(limits))
            for people in (0, 3, 10 ** 30):
                way = way_against(house, people)
                if way is not None:
                    self.is_against(limits, people, read_way(show_way(way)))


if __name__ == "__main__":
    unittest.main()
