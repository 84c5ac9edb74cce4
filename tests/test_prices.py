"""[81], [9], [10], and [3], [4] of the prices of the limits of a house."""

import unittest
from itertools import product
from random import Random

from hourneeds.clocks import Clock
from hourneeds.costs import least_cost
from hourneeds.errors import Impossible
from hourneeds.houses import House
from hourneeds.needs import Needs
from hourneeds.people import least_people, most_people, stuck
from hourneeds.plans import Plan
from hourneeds.prices import are_prices, prices_for, worth
from helpers import GREAT, odd_values
from house_helpers import (
    FORTY, HouseCase, even_limits, even_small_limits, limits_of, made, plans_of, small_limits,
)
from test_costs import TEN_MILLION, costs_of, drawn_houses, small_dues

HOUSE = even_limits(3, 2, 1)
DUES = [1, 5, 1]


def paid_of(limits, prices, hour):
    """What comes of prices for one who begins at an hour, hour by hour."""
    needs, rooms, keeps, doors, person = prices
    paid = person + keeps[hour] - doors[hour]
    for later in range(limits[0][hour]):
        at = (hour + later) % len(limits[0])
        paid += needs[at] - rooms[at]
    return paid


def worth_of(limits, people, prices):
    """What prices are worth, limit by limit."""
    _, needs, rooms, kept, doors = limits
    total = people * prices[4]
    for hour in range(len(needs)):
        total += needs[hour] * prices[0][hour] + kept[hour] * prices[2][hour]
        if rooms[hour] is not None:
            total -= rooms[hour] * prices[1][hour]
        if doors[hour] is not None:
            total -= doors[hour] * prices[3][hour]
    return total


def copied(prices):
    """The same prices as lists of their own."""
    return tuple([*[list(row) for row in prices[:4]], prices[4]])


def with_price(prices, row, hour, more):
    """The prices with one of them more by so much."""
    changed = copied(prices)
    changed[row][hour] += more
    return changed


def with_person(prices, person):
    """The prices with another price of a person."""
    return (*copied(prices)[:4], person)


def made_up(source, limits, prices):
    """Other prices that fit as these do: changes are drawn that make up for one another."""
    hours, changed = len(limits[0]), copied(prices)
    needs, rooms, keeps, doors, person = changed
    for hour in range(hours):
        more = source.randint(0, 3)
        if limits[2][hour] is not None:
            needs[hour] += more
            rooms[hour] += more
        if limits[4][hour] is not None:
            keeps[hour] += more
            doors[hour] += more
    more = source.randint(0, 3)
    for hour in range(hours):
        keeps[hour] += more
    return needs, rooms, keeps, doors, person - more


class PriceCase(HouseCase):
    def check_prices(self, limits, people, dues, least):
        """Checks the prices of a house, whose least cost is told, and returns them."""
        house = made(limits)
        prices = prices_for(house, people, dues)
        self.check_kinds(limits, prices)
        self.assertEqual([paid_of(limits, prices, hour) for hour in range(house.hours)], dues)
        self.assertEqual(worth_of(limits, people, prices), least)
        self.assertEqual(worth(house, people, prices), least)
        self.assertIs(are_prices(house, dues, prices), True)
        return prices

    def check_kinds(self, limits, prices):
        hours = len(limits[0])
        self.assertIs(prices.__class__, tuple)
        self.assertEqual([row.__class__ for row in prices], [list, list, list, list, int])
        self.assertEqual([len(row) for row in prices[:4]], [hours] * 4)
        for row in prices[:4]:
            self.assertTrue(all(price.__class__ is int and 0 <= price < 10 ** 40 for price in row))
        self.assertLess(abs(prices[4]), 10 ** 40)
        for at in (1, 3):
            # The limits of rooms and doors stand one place behind their prices.
            without = [price for limit, price in zip(limits[at + 1], prices[at]) if limit is None]
            self.assertEqual(without, [0] * len(without))


class Small(PriceCase):
    def cases(self):
        source = Random(140)
        for limits in [*small_limits(141, 150), *even_small_limits()]:
            for _ in range(2):
                yield limits, small_dues(source, len(limits[0]))

    def test_fit_and_worth_the_least_cost_of_all_plans(self):
        persons, used = set(), [0] * 4
        for limits, dues in self.cases():
            house = made(limits)
            for people in range(6):
                plans = plans_of(limits, people)
                if not plans:
                    self.impossible(Impossible, limits, people, lambda: prices_for(house, people, dues))
                    continue
                least = min(costs_of(begins, dues) for begins in plans)
                prices = self.check_prices(limits, people, dues, least)
                self.assertEqual(least_cost(house, people, dues), least)
                persons.add((prices[4] > 0) - (prices[4] < 0))
                used = [many + (max(row) > 0) for many, row in zip(used, prices)]
        self.assertEqual(persons, {-1, 0, 1})
        self.assertGreater(min(used), 10)

    def test_no_plan_costs_less_than_the_worth_of_prices_that_fit(self):
        source = Random(142)
        for limits, dues in self.cases():
            house = made(limits)
            fit = None
            for people in range(6):
                plans = plans_of(limits, people)
                if not plans:
                    continue
                fit = fit or prices_for(house, people, dues)
                least = min(costs_of(begins, dues) for begins in plans)
                for prices in (fit, made_up(source, limits, fit), made_up(source, limits, fit)):
                    self.assertIs(are_prices(house, dues, prices), True)
                    self.assertLessEqual(worth(house, people, prices), least)

    def test_dues_and_needs_of_three_hours(self):
        for dues in product((0, 1, 3), repeat=3):
            for needs in product((0, 1, 2), repeat=3):
                limits = [2, 2, 2], list(needs), [None] * 3, [0] * 3, [None] * 3
                for people in (2, 3, 4):
                    plans = plans_of(limits, people)
                    if plans:
                        least = min(costs_of(begins, dues) for begins in plans)
                        self.check_prices(limits, people, list(dues), least)


class Known(PriceCase):
    def test_the_example(self):
        house, prices = made(HOUSE), ([0, 0, 0], [0, 0, 0], [0, 4, 0], [0, 0, 0], 1)
        self.assertIs(are_prices(house, DUES, prices), True)
        self.assertEqual([worth(house, people, prices) for people in (0, 2, 10)], [0, 2, 10])

    def test_where_all_dues_are_0(self):
        for limits in (HOUSE, even_limits(8, 3, 7, room=9, keep=1, door=5), even_limits(1, 1, 4, room=4, door=4)):
            house = made(limits)
            self.check_prices(limits, least_people(house), [0] * house.hours, 0)

    def test_the_price_of_a_person(self):
        for limits, people, dues, person in [(even_limits(1, 1, 0), 3, [7], 7), (even_limits(1, 1, 0), 0, [7], 7),
                                             (([1, 1], [5, 0], [None] * 2, [0] * 2, [None] * 2), 9, [9, 0], 0)]:
            prices = prices_for(made(limits), people, dues)
            self.assertEqual(prices[4], person)
        # One more person makes it cheaper where the due of the hour that has no need is the lower one.
        limits = [2, 2, 2, 2], [1, 1, 0, 0], [None] * 4, [0] * 4, [None] * 4
        prices = self.check_prices(limits, 1, [9, 1, 9, 2], 9)
        self.assertLess(prices[4], 0)

    def test_one_hour(self):
        limits = [1], [2], [5], [1], [4]
        for people in (2, 3, 4):
            self.check_prices(limits, people, [7], 7 * people)
        for people in (0, 1, 5, TEN_MILLION):
            self.impossible(Impossible, limits, people, lambda: prices_for(made(limits), people, [7]))

    def test_a_house_without_any_plan(self):
        for limits in (even_limits(3, 2, 1, room=1), even_limits(8, 3, TEN_MILLION, room=TEN_MILLION - 1),
                       even_limits(1, 1, 2, room=1), even_limits(2, 1, 0, keep=3, door=2)):
            for people in (0, 1, 2, TEN_MILLION):
                dues = [1] * len(limits[0])
                self.impossible(Impossible, limits, people, lambda: prices_for(made(limits), people, dues))


class Great(PriceCase):
    def test_up_to_eight_hours_and_numbers_up_to_10_million(self):
        source, checked = Random(143), 0
        for limits, dues in drawn_houses(144, 60):
            house = made(limits)
            if stuck(house) is not None:
                self.impossible(Impossible, limits, TEN_MILLION, lambda: prices_for(house, TEN_MILLION, dues))
                continue
            least, most = least_people(house), most_people(house)
            for people in {least, 9 * TEN_MILLION if most is None else most, (9 * least + (most or least)) // 10}:
                prices = self.check_prices(limits, people, dues, least_cost(house, people, dues))
                other = made_up(source, limits, prices)
                self.assertIs(are_prices(house, dues, other), True)
                self.assertLessEqual(worth(house, people, other), worth(house, people, prices))
                self.assertEqual(worth(house, people, other), worth_of(limits, people, other))
                checked += 1
            if least > 0:
                self.impossible(Impossible, limits, least - 1, lambda: prices_for(house, least - 1, dues))
        self.assertGreater(checked, 60)

    def test_worth_of_great_prices_and_of_prices_that_do_not_fit(self):
        source = Random(145)
        for limits, _ in drawn_houses(146, 30):
            hours = len(limits[0])
            rows = [[source.randint(0, FORTY) for _ in range(hours)] for _ in range(4)]
            for at in (1, 3):
                rows[at] = [0 if limit is None else price for limit, price in zip(limits[at + 1], rows[at])]
            for person in (0, FORTY, -FORTY, 3):
                prices = (*rows, person)
                for people in (0, 1, 9 * TEN_MILLION):
                    self.assertEqual(worth(made(limits), people, prices), worth_of(limits, people, prices))


class ArePrices(PriceCase):
    def cases(self):
        """Houses with prices that fit: with no other limits, with all, and with some."""
        all_told = [2, 2, 2], [1, 1, 1], [4, 4, 4], [0, 1, 0], [3, 3, 3]
        some = [3, 2, 1], [1, 0, 2], [5, None, 6], [1, 0, 0], [None, 4, None]
        for limits in (HOUSE, all_told, some, even_limits(1, 1, 1), even_limits(8, 3, TEN_MILLION, room=9 * TEN_MILLION)):
            dues = [(3 * hour * hour + 2) % 11 for hour in range(len(limits[0]))]
            house = made(limits)
            yield limits, dues, prices_for(house, least_people(house), dues)

    def test_one_price_more_or_fewer(self):
        for limits, dues, prices in self.cases():
            house = made(limits)
            self.assertIs(are_prices(house, dues, prices), True)
            for row in range(4):
                for hour in range(house.hours):
                    for more in (1, -1, 10 ** 40, -(10 ** 40)):
                        self.assertIs(are_prices(house, dues, with_price(prices, row, hour, more)), False)
            for more in (1, -1, GREAT):
                self.assertIs(are_prices(house, dues, with_person(prices, prices[4] + more)), False)

    def test_other_dues(self):
        for limits, dues, prices in self.cases():
            for hour in range(len(dues)):
                for more in (1, -1):
                    other = list(dues)
                    other[hour] += more
                    self.assertIs(are_prices(made(limits), other, prices), False)

    def test_changes_that_make_up_for_one_another(self):
        for limits, dues, prices in self.cases():
            house = made(limits)
            for hour in range(house.hours):
                for row in (0, 2):
                    told = limits[2 if row == 0 else 4][hour] is not None
                    both = with_price(with_price(prices, row, hour, 5), row + 1, hour, 5)
                    # Where there is no such limit its price has to be 0, though the dues come of it.
                    self.assertEqual([paid_of(limits, both, at) for at in range(house.hours)], dues)
                    self.assertIs(are_prices(house, dues, both), told)
            more = copied(prices)
            for hour in range(house.hours):
                more[2][hour] += 7
            self.assertIs(are_prices(house, dues, with_person(more, prices[4] - 7)), True)
            self.assertIs(are_prices(house, dues, with_person(more, prices[4] - 6)), False)

    def test_prices_below_0_though_the_dues_come_of_them(self):
        for limits, dues, prices in self.cases():
            lower = copied(prices)
            many = max(lower[2]) + 1
            for hour in range(len(dues)):
                lower[2][hour] -= many
            lower = with_person(lower, prices[4] + many)
            self.assertEqual([paid_of(limits, lower, hour) for hour in range(len(dues))], dues)
            self.assertIs(are_prices(made(limits), dues, lower), False)
        house, below = made(even_limits(1, 1, 0, room=3)), ([-1], [-1], [0], [0], 4)
        self.assertIs(are_prices(house, [4], below), False)
        self.assertIs(are_prices(house, [4], ([0], [0], [0], [0], 4)), True)
        self.assertIs(are_prices(house, [4], ([9], [0], [0], [0], -5)), True)

    def test_truths_are_no_prices(self):
        house = made(even_limits(1, 1, 0, room=3, door=3))
        self.assertIs(are_prices(house, [1], ([1], [0], [0], [0], 0)), True)
        self.assertIs(are_prices(house, [1], ([True], [0], [0], [0], 0)), False)
        self.assertIs(are_prices(house, [1], ([1], [False], [0], [0], 0)), False)
        self.assertIs(are_prices(house, [1], ([1], [0], [False], [0], 0)), False)
        self.assertIs(are_prices(house, [1], ([1], [0], [0], [False], 0)), False)
        self.assertIs(are_prices(house, [1], ([1], [0], [0], [0], False)), False)
        self.assertIs(are_prices(house, [1], ([0], [0], [0], [0], True)), False)

    def test_tuples_for_lists_and_lists_for_tuples(self):
        for limits, dues, prices in self.cases():
            house = made(limits)
            self.assertIs(are_prices(house, dues, list(prices)), False)
            for row in range(4):
                parts = list(prices)
                parts[row] = tuple(parts[row])
                self.assertIs(are_prices(house, dues, tuple(parts)), False)

    def test_a_part_more_or_fewer(self):
        for limits, dues, prices in self.cases():
            house = made(limits)
            for wrong in (prices[:4], prices[1:], (*prices, 0), (*prices[:4], [], prices[4]), (), (prices,)):
                self.assertIs(are_prices(house, dues, wrong), False)
            for row in range(4):
                longer, shorter = copied(prices), copied(prices)
                longer[row].append(0)
                shorter[row].pop()
                self.assertIs(are_prices(house, dues, longer), False)
                self.assertIs(are_prices(house, dues, shorter), False)

    def test_any_values(self):
        for limits, dues, prices in self.cases():
            house = made(limits)
            for value in [0, 1, GREAT, house, Plan([1]), *odd_values()]:
                self.assertIs(are_prices(house, dues, value), False)
                for row in range(5):
                    parts = list(prices)
                    parts[row] = value
                    if row < 4 or value.__class__ is not int:
                        self.assertIs(are_prices(house, dues, tuple(parts)), False)
                for row in range(4):
                    parts = copied(prices)
                    parts[row][0] = value
                    if value.__class__ is not int:
                        self.assertIs(are_prices(house, dues, parts), False)


class TurnedAbout(PriceCase):
    def test_turned_prices_fit_turned_houses(self):
        for limits, dues in drawn_houses(147, 15):
            house, hours = made(limits), len(limits[0])
            if stuck(house) is not None:
                continue
            people = least_people(house)
            needs, rooms, keeps, doors, person = prices_for(house, people, dues)
            for by in (1, -1, 5):
                first = by % hours
                turned = [row[first:] + row[:first] for row in (dues, needs, rooms, keeps, doors)]
                prices = (*turned[1:], person)
                self.assertIs(are_prices(house.turned(by), turned[0], prices), True)
                self.assertEqual(worth(house.turned(by), people, prices), least_cost(house, people, dues))
                other = prices_for(house.turned(by), people, turned[0])
                self.assertEqual(worth(house.turned(by), people, other), least_cost(house, people, dues))


class Kept(PriceCase):
    def test_asking_changes_nothing(self):
        limits = [2, 2, 2], [1, 1, 1], [4, None, 4], [0, 1, 0], [None, 3, 3]
        house, dues = made(limits), [1, 5, 2]
        prices = prices_for(house, 3, dues)
        before = copied(prices)
        for act in (lambda: prices_for(house, 3, dues), lambda: are_prices(house, dues, prices),
                    lambda: worth(house, 3, prices)):
            self.assertEqual(act(), act())
            self.assertEqual([limits_of(house), dues, prices], [limits, [1, 5, 2], before])

    def test_what_is_returned_is_new(self):
        house = made(HOUSE)
        for row in range(4):
            self.may_be_changed(lambda: prices_for(house, 2, DUES)[row])
        told = prices_for(house, 2, DUES)
        for row in told[:4]:
            row[0] += 9
        self.assertIs(are_prices(house, DUES, told), False)
        self.assertIs(are_prices(house, DUES, prices_for(house, 2, DUES)), True)
        self.assertEqual(len({id(row) for row in told[:4]}), 4)
        self.may_be_changed(lambda: self.raised(Impossible, lambda: prices_for(house, 1, DUES)).way)

    def test_a_house_of_lists_that_were_changed_behind(self):
        rooms, doors = [4, None, 4], [None, 3, 3]
        house = House(Clock([2, 2, 2]), Needs([1, 1, 1]), rooms=rooms, doors=doors)
        prices = prices_for(house, 2, DUES)
        rooms[1], doors[0] = 0, 0
        self.assertIs(are_prices(house, DUES, prices), True)
        self.assertIs(are_prices(house, DUES, with_price(with_price(prices, 0, 1, 1), 1, 1, 1)), False)


if __name__ == "__main__":
    unittest.main()
