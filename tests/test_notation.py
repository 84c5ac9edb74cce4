"""[95], and [3] of the texts of clocks, needs, plans, fractions, ways and houses."""

import unittest
from random import Random

from hourneeds.clocks import Clock
from hourneeds.houses import House
from hourneeds.needs import Needs
from hourneeds.notation import show_clock, show_fraction, show_house, show_needs, show_plan, show_way
from hourneeds.people import stuck
from hourneeds.plans import Plan
from hourneeds.ways import ring_way, steps
from helpers import GREAT, Case, drawn_clock
from house_helpers import FORTY, even_limits, great_limits, limits_of, made, small_limits


def line_of(word, numbers):
    """A word and numbers, or - for None, each behind a blank."""
    text = word
    for number in numbers:
        text += " " + ("-" if number is None else "%d" % number)
    return text


def text_of(limits):
    """The text of a house, line by line."""
    stays, needs, rooms, kept, doors = limits
    text = line_of("clock", stays) + "\n" + line_of("needs", needs) + "\n"
    if any(room is not None for room in rooms):
        text += line_of("rooms", rooms) + "\n"
    if any(keep != 0 for keep in kept):
        text += line_of("kept", kept) + "\n"
    if any(door is not None for door in doors):
        text += line_of("doors", doors) + "\n"
    return text


def drawn_number(source):
    """An integer from 0 on of one to forty digits."""
    return source.choice([0, 1, 9, 10, FORTY, 10 ** 39, source.randint(0, 10 ** source.randint(1, 40) - 1)])


def any_limits(seed, many):
    """So many limits of houses of one to 48 hours, with numbers of one to forty digits: most have no plan."""
    source = Random(seed)
    for at in range(many):
        hours = source.choice([1, 2, 3, 24, 47, 48, source.randint(1, 48)])

        def row(likely, none):
            if source.random() < 0.4:
                return [none] * hours
            return [drawn_number(source) if source.random() < likely else none for _ in range(hours)]

        stays = drawn_clock(source, hours).stays()
        yield stays, [drawn_number(source) for _ in range(hours)], row(0.7, None), row(0.5, 0), row(0.3, None)


class Rows(Case):
    def test_known_ones(self):
        self.assertEqual(show_clock(Clock([3, 2, 1])), "clock 3 2 1")
        self.assertEqual(show_clock(Clock([1])), "clock 1")
        self.assertEqual(show_needs(Needs([0, 10, 200])), "needs 0 10 200")
        self.assertEqual(show_plan(Plan([0])), "plan 0")
        self.assertEqual(show_plan(Plan([1, 0, 12345678901234567890])), "plan 1 0 12345678901234567890")

    def test_one_to_48_hours_and_one_to_forty_digits(self):
        source = Random(180)
        for hours in range(1, 49):
            clock, row = drawn_clock(source, hours), [drawn_number(source) for _ in range(hours)]
            self.assertEqual(show_clock(clock), line_of("clock", clock.stays()))
            self.assertEqual(show_needs(Needs(row)), line_of("needs", row))
            self.assertEqual(show_plan(Plan(row)), line_of("plan", row))
            for text in (show_clock(clock), show_needs(Needs(row)), show_plan(Plan(row))):
                self.assertIs(text.__class__, str)

    def test_greater_numbers_too(self):
        self.assertEqual(show_needs(Needs([GREAT])), "needs 1" + "0" * 39 + "7")
        self.assertEqual(show_plan(Plan([10 ** 60, 0])), "plan 1" + "0" * 60 + " 0")


class Fractions(Case):
    def test_two_integers_with_a_stroke_between(self):
        for fraction, text in [((0, 1), "0/1"), ((3, 2), "3/2"), ((7, 1), "7/1"), ((1, 48), "1/48"),
                               ((10 ** 30, 3), "1" + "0" * 30 + "/3"), ((GREAT, 10), "1" + "0" * 39 + "7/10")]:
            self.assertEqual(show_fraction(fraction), text)


class Ways(Case):
    def test_known_ones(self):
        self.assertEqual(show_way([("need", 0)]), "need 0")
        self.assertEqual(show_way([("need", 0), ("need", 2), ("need", 1)]), "need 0, need 2, need 1")
        self.assertEqual(show_way([("door", 23), ("keep", 0), ("room", 47)]), "door 23, keep 0, room 47")

    def test_ways_that_are_told(self):
        house = made(even_limits(24, 5, 10 ** 30, room=10 ** 30 - 1, door=10 ** 30))
        for way in [*stuck(house), steps(house), ring_way(house, [0, 9, 13]), steps(house) * 20]:
            self.assertEqual(show_way(way), ", ".join("%s %d" % step for step in way))


class Houses(Case):
    def test_a_line_just_where_a_limit_is_told(self):
        for rooms in (None, [None, None], [0, None], [None, 7], [3, 0]):
            for kept in (None, [0, 0], [0, 1], [2, 0], [10, 20]):
                for doors in (None, [None, None], [0, 0], [None, 5], [1, None]):
                    house = House(Clock([2, 1]), Needs([0, 3]), rooms=rooms, kept=kept, doors=doors)
                    expected = ["clock 2 1", "needs 0 3"]
                    if rooms not in (None, [None, None]):
                        expected.append(line_of("rooms", rooms))
                    if kept not in (None, [0, 0]):
                        expected.append(line_of("kept", kept))
                    if doors not in (None, [None, None]):
                        expected.append(line_of("doors", doors))
                    self.assertEqual(show_house(house), "\n".join(expected) + "\n")

    def test_known_ones(self):
        house = House(Clock([2, 2, 2]), Needs([1, 1, 1]), rooms=[1, 1, 1])
        self.assertEqual(show_house(house), "clock 2 2 2\nneeds 1 1 1\nrooms 1 1 1\n")
        house = House(Clock([1, 1]), Needs([5, 0]), rooms=[None, 12], kept=[0, 3], doors=[4, None])
        self.assertEqual(show_house(house), "clock 1 1\nneeds 5 0\nrooms - 12\nkept 0 3\ndoors 4 -\n")
        self.assertEqual(show_house(House(Clock([1]), Needs([0]), doors=[0])), "clock 1\nneeds 0\ndoors 0\n")

    def test_many_houses(self):
        for limits in [*any_limits(181, 60), *small_limits(182, 40), *great_limits(183, 6)]:
            self.assertEqual(show_house(made(limits)), text_of(limits))

    def test_the_same_text_just_for_the_same_house(self):
        houses = [made(limits) for limits in small_limits(184, 60, 2)]
        for one in houses:
            for other in houses:
                self.assertIs(show_house(one) == show_house(other), one == other)


class Kept(Case):
    def test_asking_changes_nothing(self):
        limits = [2, 2, 2], [1, 1, 1], [4, None, 4], [0, 1, 0], [None, 3, 3]
        house, way = made(limits), [("need", 0), ("room", 0)]
        for act in (lambda: show_house(house), lambda: show_clock(house.clock), lambda: show_way(way)):
            self.assertEqual(act(), act())
        self.assertEqual([limits_of(house), way], [limits, [("need", 0), ("room", 0)]])


if __name__ == "__main__":
    unittest.main()
