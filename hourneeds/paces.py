"""The least and the greatest number of people a day, on average, when days follow one another.

A way that comes to no mark twice has as many turns as there are hours at most. So with all
limits as many times as great as a number that all these turns divide, nothing is rounded: the
least and the greatest number of people then are the paces, as many times as great.
"""

from math import gcd, lcm

from hourneeds.errors import Never
from hourneeds.houses import House
from hourneeds.people import are_forth_and_back, is_shown_by_one, least_people, most_people, stuck, way_against
from hourneeds.ways import turns, value


def least_pace(house):
    """The greatest of the values divided by the turns of the ways with turns above 0."""
    check_ever(house)
    return _fraction(least_people(_many_fold(house)), _many(house))


def most_pace(house):
    """The least of the values divided by the turns of the ways with turns below 0, or None if there is no such way."""
    check_ever(house)
    most = most_people(_many_fold(house))
    if most is None:
        return None
    return _fraction(most, _many(house))


def pace_way(house):
    """A way with turns above 0 whose value divided by its turns is the least pace."""
    check_ever(house)
    whole = _many_fold(house)
    # Ways with other turns are not against the least number, so not against one fewer either.
    return way_against(whole, least_people(whole) - 1)


def never(house):
    """A list of ways which shows that no plan keeps the house however many days it has, or None if there is none."""
    return stuck(_many_fold(house))


def are_never(house, thing):
    """Whether thing, any value, is a list of ways which shows this."""
    if not are_forth_and_back(house, thing):
        return is_shown_by_one(house, thing)
    forth, back = thing
    # Value divided by turns on both sides, times both turns, of which one is below 0.
    return value(house, forth) * turns(house, back) < value(house, back) * turns(house, forth)


def check_ever(house):
    """Raises Never if no plan keeps the house however many days it has."""
    ways = never(house)
    if ways is not None:
        raise Never(ways)


def _many(house):
    """The least number that all numbers of turns of ways that come to no mark twice divide."""
    many = 1
    for round_about in range(2, house.hours + 1):
        many = lcm(many, round_about)
    return many


def _many_fold(house):
    """The House with all limits so many times as great: its steps are the same, and so its ways."""
    many = _many(house)
    rooms, kept, doors = [_times(row, many) for row in (house.rooms(), house.kept(), house.doors())]
    return House(house.clock, house.needs * many, rooms=rooms, kept=kept, doors=doors)


def _times(row, many):
    return [None if number is None else number * many for number in row]


def _fraction(above, below):
    common = gcd(above, below)
    return above // common, below // common
