"""What several tests need: a test case, values of many kinds, clocks, and searches of their own."""

import unittest
from itertools import product

from hourneeds.books import Book
from hourneeds.clocks import Clock
from hourneeds.desk import Desk
from hourneeds.endless import Endless
from hourneeds.errors import NeedError, NoHour, Wrong
from hourneeds.houses import House
from hourneeds.needs import Needs
from hourneeds.plans import Plan

GREAT = 10 ** 40 + 7
ROWS = [[0], [1], [7, 0], [0, 7], [2, 0, 2, 0], [10 ** 30, 0, 3], [5] * 24, list(range(48)), [10 ** 30] * 48]
TURNS = [*range(-12, 13), 48, -48, 10 ** 40, -(10 ** 40), GREAT, -GREAT]


class Case(unittest.TestCase):
    def raises(self, error, act, **kept):
        """Checks that act raises just this error, which keeps just these very objects."""
        with self.assertRaises(error) as context:
            act()
        self.assertIs(context.exception.__class__, error)
        self.assertEqual(sorted(vars(context.exception)), sorted(kept))
        for name, value in kept.items():
            self.assertIs(getattr(context.exception, name), value)

    def may_be_changed(self, ask):
        """Checks that each call of ask tells an equal list, whatever was done to one told before."""
        before, told = ask(), ask()
        self.assertIs(told.__class__, list)
        self.assertEqual(told, before)
        told.append(99)
        told[0] = -7
        self.assertEqual(ask(), before)

    def defines(self, made, names, properties=(), statics=()):
        """Checks that a class itself defines all these names."""
        told = vars(made)
        self.assertEqual([name for name in [*names, *properties, *statics] if name not in told], [])
        for name in properties:
            self.assertIsInstance(told[name], property)
        for name in statics:
            self.assertIsInstance(told[name], staticmethod)


def nested(depth, make):
    """A value in as many values as depth tells, each made by make of a list of one."""
    value = 0
    for _ in range(depth):
        value = make([value])
    return value


def odd_values():
    """Values that are no integer, no fraction, no row of numbers and no row of stays."""
    return [
        None, True, False, "", "0", "1", "(1, 2)", "a" * 41, b"", b"\x01", (), [], {}, {0: 1}, {1: 2},
        set(), {1}, {1, 2}, frozenset([1]), range(2), slice(0, 1), int, len, Ellipsis,
        [None], (None, None), [True], (False, 1), (1, True), ["1"], [[1]], [(1, 2)], ((1, 2),), {"a": [1]},
        [-1], (-1,), nested(60, list), nested(60, tuple), nested(60, lambda items: {0: items[0]}),
        "x" * 20000, [None] * 19999, tuple([True] * 19999), {number: None for number in range(9999)},
        Clock([1]), [Clock([2, 1])], NeedError("x"), Needs([1]), [Needs([0])], Plan([1]), (Plan([0]), 0),
        House(Clock([1]), Needs([1])), [House(Clock([1]), Needs([0]), doors=[0])],
        Endless(House(Clock([1]), Needs([1])), (1, 1)), Book(House(Clock([1]), Needs([1]))),
        Desk(House(Clock([1]), Needs([1]))),
    ]


def no_hours(hours):
    """Values that are none of so many hours."""
    return [hours, hours + 1, -1, -hours, 10 ** 40, -GREAT, *odd_values()]


def rows(hours):
    """All rows of so many integers from 1 to hours."""
    return product(range(1, hours + 1), repeat=hours)


def count_rows(hours, most):
    """All lists of so many integers from 0 to most."""
    return [list(row) for row in product(range(most + 1), repeat=hours)]


def overtaken(stays):
    """All hours whose stay is more than 1 greater than that of the next hour."""
    return [hour for hour in range(len(stays)) if stays[hour] - stays[(hour + 1) % len(stays)] > 1]


def small_clocks(most=5):
    """The stays of all clocks of one to five hours, or to another number."""
    return [list(row) for hours in range(1, most + 1) for row in rows(hours) if not overtaken(row)]


def falling_clock(hours):
    """A clock in which all leave at the end of the day."""
    return Clock([hours - hour for hour in range(hours)])


def drawn_clock(source, hours, least=1):
    """A clock with stays that source, a random.Random, draws from least on, cut to what the next hour allows."""
    stays = [source.randint(least, hours) for _ in range(hours)]
    # Going back twice round the clock, the cuts reach every hour ahead.
    for hour in range(2 * hours - 1, -1, -1):
        at = hour % hours
        stays[at] = min(stays[at], stays[(at + 1) % hours] + 1)
    return Clock(stays)


def drawn_row(source, hours, most):
    """A list of so many integers from 0 to most; about a third of them are 0."""
    return [source.choice([0, 1, 1]) * source.randint(0, most) for _ in range(hours)]


def serving_of(stays, hour):
    """The window of an hour, found by asking for whom the hour is among those served."""
    hours = len(stays)
    found = []
    for back in range(hours):
        begun = (hour - back) % hours
        if hour in [(begun + later) % hours for later in range(stays[begun])]:
            found.append(begun)
    return found[::-1]


def there_of(stays, begins):
    """How many are there at each hour, counted by letting all who begin serve their hours."""
    hours = len(stays)
    there = [0] * hours
    for begun, many in enumerate(begins):
        for later in range(stays[begun]):
            there[(begun + later) % hours] += many
    return there


def all_begins(hours, people):
    """The begins of all plans of so many hours with so many people (below 0: none), in ascending order."""
    if people < 0:
        return []
    if hours == 1:
        return [[people]]
    return [[first, *rest] for first in range(people + 1) for rest in all_begins(hours - 1, people - first)]


class RowTests:
    """What is tested alike of Needs and of Plan; a test case tells which, and how it names the sum."""

    made = None
    whole = ""

    def test_each_number_of_hours(self):
        for hours in range(1, 49):
            row = [(hour * hour) % 7 for hour in range(hours)]
            for thing in (row, tuple(row)):
                self.assertIs(self.made(thing).__class__, self.made)
                self.check_told(self.made(thing), row)

    def check_told(self, one, row):
        self.assertEqual([one.hours, len(one), getattr(one, self.whole)], [len(row), len(row), sum(row)])
        self.assertEqual([[*one], [number for number in one], list(one)], [row, row, row])
        self.assertEqual([one[hour] for hour in range(len(row))], row)
        self.assertEqual([max(one), min(one), sum(one)], [max(row), min(row), sum(row)])

    def test_small_and_great_numbers(self):
        for row in count_rows(3, 2) + ROWS + [[GREAT, 0]]:
            self.check_told(self.made(row), row)

    def test_numbers_of_hours_that_are_wrong(self):
        for many in (0, 49, 50, 20000):
            for thing in ([1] * many, (1,) * many, [0] * many):
                self.raises(Wrong, lambda: self.made(thing), place=0)

    def test_items_that_are_no_integers_from_0_on(self):
        for hours in (1, 2, 3, 48):
            for place in {0, hours // 2, hours - 1}:
                for value in [-1, -(10 ** 30), -GREAT, *odd_values()]:
                    row = [2] * hours
                    row[place] = value
                    self.raises(Wrong, lambda: self.made(row), place=0)
                    self.raises(Wrong, lambda: self.made(tuple(row)), place=0)

    def test_values_that_are_no_rows(self):
        wrong = [0, 1, -1, GREAT, {0: 0}, {0: 0, 1: 0}, "0", b"\x00", {0}, range(3), iter([1]), Needs([1]), Plan([1])]
        for value in wrong + odd_values():
            self.raises(Wrong, lambda: self.made(value), place=0)

    def test_the_row_may_be_changed_behind(self):
        row = [3, 0, 1]
        one = self.made(row)
        self.assertEqual(row, [3, 0, 1])
        row[0] = 9
        row.append(9)
        self.check_told(one, [3, 0, 1])
        self.assertEqual(one, self.made([3, 0, 1]))

    def test_no_hour(self):
        for hours in (1, 3, 24, 48):
            one = self.made([2] * hours)
            for hour in no_hours(hours):
                self.raises(NoHour, lambda: one[hour], hour=hour)

    def test_properties_cannot_be_assigned(self):
        one = self.made([1, 1])
        for name in ("hours", self.whole):
            with self.assertRaises(AttributeError):
                setattr(one, name, 3)
        self.check_told(one, [1, 1])

    def test_equal_and_unlike_rows(self):
        told = [row for hours in (1, 2, 3) for row in count_rows(hours, 2)]
        for one in told:
            for other in told:
                self.assertIs(self.made(one) == self.made(tuple(other)), one == other)
                self.assertIs(self.made(one) != self.made(tuple(other)), one != other)
        self.assertIs(self.made([10 ** 30]) == self.made([10 ** 30 + 1]), False)

    def test_equal_to_nothing_else(self):
        others = [made(row) for made in (Needs, Plan, Clock, list, tuple) for row in ([1], [2, 1])]
        others += [1, 0, [0], (0,), "1", Needs([0]), Plan([0]), *odd_values()]
        for one in (self.made([1]), self.made([0]), self.made([2, 1])):
            for value in [value for value in others if value.__class__ != self.made]:
                self.assertIs(one == value, False)
                self.assertIs(value == one, False)
                self.assertIs(one != value, True)
