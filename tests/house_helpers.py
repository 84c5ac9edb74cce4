"""What the tests of houses need: limits, and searches through all plans and all ways, of their own.

Limits are a tuple (stays, needs, rooms, kept, doors) of lists, with None in rooms and doors
where there is no such limit.
"""

from fractions import Fraction
from math import ceil, floor
from random import Random

from hourneeds.clocks import Clock
from hourneeds.houses import House
from hourneeds.needs import Needs
from helpers import Case, all_begins, drawn_clock, drawn_row, serving_of, small_clocks, there_of

WORDS = ("door", "keep", "need", "room")
# Numbers of people of forty digits, as many as may be handed in.
FORTY = 10 ** 40 - 1


def made(limits):
    """The House with these limits."""
    stays, needs, rooms, kept, doors = limits
    return House(Clock(stays), Needs(needs), rooms=rooms, kept=kept, doors=doors)


def limits_of(house):
    """The limits that a House tells."""
    return house.clock.stays(), list(house.needs), house.rooms(), house.kept(), house.doors()


def even_limits(hours, stay, need, room=None, keep=0, door=None):
    """Limits that are the same at each hour."""
    return [stay] * hours, [need] * hours, [room] * hours, [keep] * hours, [door] * hours


def broken_by(limits, begins):
    """The ascending list of the steps that these begins do not keep."""
    stays, needs, rooms, kept, doors = limits
    there = there_of(stays, begins)
    found = []
    for hour in range(len(stays)):
        if begins[hour] < kept[hour]:
            found.append(("keep", hour))
        if there[hour] < needs[hour]:
            found.append(("need", hour))
        if doors[hour] is not None and begins[hour] > doors[hour]:
            found.append(("door", hour))
        if rooms[hour] is not None and there[hour] > rooms[hour]:
            found.append(("room", hour))
    return sorted(found)


def plans_of(limits, people):
    """The begins of all plans with so many people, in ascending order, found by going through all begins."""
    return [begins for begins in all_begins(len(limits[0]), people) if not broken_by(limits, begins)]


def table_of(limits):
    """For each step the tuple (first, last, length, value), with windows counted hour by hour."""
    stays, needs, rooms, kept, doors = limits
    hours, found = len(stays), {}
    for hour in range(hours):
        window, behind = serving_of(stays, hour), (hour + 1) % hours
        found["need", hour] = (window[0], behind, len(window), needs[hour])
        found["keep", hour] = (hour, behind, 1, kept[hour])
        if rooms[hour] is not None:
            found["room", hour] = (behind, window[0], -len(window), -rooms[hour])
        if doors[hour] is not None:
            found["door", hour] = (behind, hour, -1, -doors[hour])
    return {step: found[step] for step in sorted(found)}


def turns_and_value(limits, way):
    """The turns and the value of a way, which is walked from mark to mark."""
    table = table_of(limits)
    assert isinstance(way, list) and way
    mark = start = table[way[0]][0]
    gone = worth = 0
    for step in way:
        first, last, length, number = table[step]
        assert first == mark
        mark, gone, worth = last, gone + length, worth + number
    assert mark == start
    days, rest = divmod(gone, len(limits[0]))
    assert rest == 0
    return days, worth


def simple_ways(limits):
    """All ways that come to no mark twice, each begun at the least of its marks."""
    table, found = table_of(limits), []

    def go_on(start, way, marks):
        for step, (first, last, _, _) in table.items():
            if first != marks[-1]:
                continue
            if last == start:
                found.append(way + [step])
            elif last > start and last not in marks:
                go_on(start, way + [step], marks + [last])

    for start in range(len(limits[0])):
        go_on(start, [], [start])
    return found


def paces_of(limits):
    """The least and the greatest pace that the simple ways leave, perhaps None, and whether one shows that none is left."""
    least, most, alone = None, None, False
    for way in simple_ways(limits):
        days, worth = turns_and_value(limits, way)
        if days > 0 and (least is None or Fraction(worth, days) > least):
            least = Fraction(worth, days)
        elif days < 0 and (most is None or Fraction(worth, days) < most):
            most = Fraction(worth, days)
        elif days == 0 and worth > 0:
            alone = True
    return least, most, alone


def reached_by(limits, pace):
    """What walks from mark 0 reach at most at each mark at a pace, a Fraction, or None if some go on for ever."""
    hours = len(limits[0])
    asking = [(first, last, number - (first + length - last) // hours * pace)
              for first, last, length, number in table_of(limits).values()]
    reached = {0: Fraction(0)}
    for _ in range(hours + 1):
        before = dict(reached)
        for first, last, number in asking:
            if first in before and (last not in reached or before[first] + number > reached[last]):
                reached[last] = before[first] + number
        if reached == before:
            return reached
    return None


def as_tuple(fraction):
    """A Fraction as the tuple of its integers, and None as None."""
    return None if fraction is None else (fraction.numerator, fraction.denominator)


def drawn_limits(source, hours, most, loose, open_some=True):
    """Limits around a plan that source draws, each so much looser at most; some of rooms and doors are open.

    So the house has a plan. Begins are at most most.
    """
    stays = drawn_clock(source, hours, source.randint(1, hours)).stays()
    begins = drawn_row(source, hours, most)
    there = there_of(stays, begins)

    def upper(number):
        return None if open_some and source.random() < 0.4 else number + source.randint(0, loose)

    def lower(number):
        return max(0, number - source.randint(0, loose)) if source.random() < 0.7 else 0

    return (stays, [lower(number) for number in there], [upper(number) for number in there],
            [lower(number) for number in begins], [upper(number) for number in begins])


def disturbed(source, limits, most):
    """These limits with one or two of them drawn anew, from 0 to most: perhaps no plan is left."""
    changed = [list(row) for row in limits]
    for _ in range(source.randint(1, 2)):
        row = changed[source.randint(1, 4)]
        row[source.randrange(len(row))] = source.randint(0, most)
    return tuple(changed)


def free_limits(source, hours, most):
    """Limits that are drawn each by itself."""
    stays = drawn_clock(source, hours, source.randint(1, hours)).stays()
    rooms = [source.choice([None, source.randint(0, 2 * most)]) for _ in range(hours)]
    doors = [source.choice([None, source.randint(0, most)]) for _ in range(hours)]
    return stays, drawn_row(source, hours, most), rooms, [source.choice([0, 0, 1]) for _ in range(hours)], doors


def small_limits(seed, many, most_hours=4):
    """So many small houses, of one to four hours or to another number: about a third of them have no plan."""
    source = Random(seed)
    for at in range(many):
        hours = at % most_hours + 1
        limits = drawn_limits(source, hours, 2, 1, open_some=at % 2 == 0)
        if at % 3 == 1:
            limits = disturbed(source, limits, 3)
        if at % 3 == 2:
            limits = free_limits(source, hours, 3)
        yield limits


def even_small_limits():
    """Small houses with the same limits at each hour, on all clocks of one to three hours."""
    for stays in small_clocks(3):
        hours = len(stays)
        for need, room, keep, door in [(0, None, 0, None), (1, None, 0, None), (1, 1, 0, None), (1, 2, 0, 1),
                                       (2, 2, 1, None), (1, None, 1, 1), (2, 1, 0, None), (0, 0, 0, 0), (3, None, 0, 1)]:
            yield stays, [need] * hours, [room] * hours, [keep] * hours, [door] * hours


def great_limits(seed, many, hours=24):
    """So many great houses, with limits up to 10 ** 30; some of them have no plan."""
    source = Random(seed)
    for at in range(many):
        loose = source.choice([0, 1, 10 ** 28, 10 ** 29])
        limits = drawn_limits(source, source.choice([hours, hours, hours - 1, max(1, hours // 2)]),
                              source.choice([3, 10 ** 28]), loose, open_some=at % 2 == 0)
        if at % 4 == 3:
            limits = disturbed(source, limits, 10 ** 30)
        yield limits


class HouseCase(Case):
    """Checks what shows something of a house, by means of the tests' own."""

    def is_plan(self, limits, people, plan):
        self.assertEqual([plan.hours, plan.people], [len(limits[0]), people])
        self.assertEqual(broken_by(limits, list(plan)), [])

    def is_against(self, limits, people, way):
        self.assertIs(way.__class__, list)
        self.assertLessEqual(len(way), 2000)
        days, worth = turns_and_value(limits, way)
        self.assertGreater(worth, days * people)

    def shows_stuck(self, limits, ways):
        self.shows(limits, ways, lambda least, most: ceil(least) > floor(most))

    def shows_never(self, limits, ways):
        self.shows(limits, ways, lambda least, most: least > most)

    def shows(self, limits, ways, is_beyond):
        """Checks a list of ways: one that goes nowhere, or two whose quotients leave nothing."""
        self.assertIs(ways.__class__, list)
        self.assertIn(len(ways), (1, 2))
        self.assertTrue(all(len(way) <= 2000 for way in ways))
        told = [turns_and_value(limits, way) for way in ways]
        if len(ways) == 1:
            self.assertEqual(told[0][0], 0)
            self.assertGreater(told[0][1], 0)
            return
        (forth, needed), (back, allowed) = told
        self.assertTrue(forth > 0 > back)
        self.assertTrue(is_beyond(Fraction(needed, forth), Fraction(allowed, back)))

    def raised(self, error, act):
        """The error that act raises, which is just of this class."""
        with self.assertRaises(error) as context:
            act()
        self.assertIs(context.exception.__class__, error)
        return context.exception

    def impossible(self, error, limits, people, act):
        """Checks that act raises Impossible with a way against so many people."""
        raised = self.raised(error, act)
        self.assertEqual(list(vars(raised)), ["way"])
        self.is_against(limits, people, raised.way)

    def stuck(self, error, limits, act):
        """Checks that act raises Stuck with ways that show it."""
        raised = self.raised(error, act)
        self.assertEqual(list(vars(raised)), ["ways"])
        self.shows_stuck(limits, raised.ways)

    def never(self, error, limits, act):
        """Checks that act raises Never with ways that show it."""
        raised = self.raised(error, act)
        self.assertEqual(list(vars(raised)), ["ways"])
        self.shows_never(limits, raised.ways)
