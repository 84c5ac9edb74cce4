"""What a limit, a longer stay or a need costs: by how much the least number of people of a house changes."""

from hourneeds.errors import Overtaken, Stuck, Wrong
from hourneeds.people import is_possible, least_people
from hourneeds.rounds import check_hour
from hourneeds.spans import there_range


def more_for(house, word, hour, number):
    """By how much the least number of people grows with another limit, or None if no plan is left."""
    changed = house.with_limit(word, hour, number)
    before = least_people(house)
    after = _least_or_none(changed)
    if after is None:
        return None
    return after - before


def stay_gain(house, hour):
    """By how much it falls if one who begins at an hour stays an hour more, or None if no clock or no plan is left."""
    stay = house.clock[hour] + 1
    before = least_people(house)
    try:
        changed = house.with_stay(hour, stay)
    except (Wrong, Overtaken):
        return None
    after = _least_or_none(changed)
    if after is None:
        return None
    return before - after


def free_need(house, hour):
    """The greatest number that an hour can need with no more people than before."""
    check_hour(house.hours, hour)
    return there_range(house, least_people(house), hour)[1]


def least_need(house, hour):
    """The least number that an hour can need with no fewer people."""
    check_hour(house.hours, hour)
    fewer = least_people(house) - 1
    bare = house.with_limit("need", hour, 0)
    # The numbers of people that are possible are a row. So if fewer are possible with a lower
    # need, one fewer are, too.
    if fewer < 0 or not is_possible(bare, fewer):
        return 0
    return there_range(bare, fewer, hour)[1] + 1


def binding(house):
    """The ascending list of the hours whose need, above 0, cannot be lowered by one but the least number falls."""
    fewer = least_people(house) - 1
    found = []
    for hour, need in enumerate(house.needs):
        if need > 0 and is_possible(house.with_limit("need", hour, need - 1), fewer):
            found.append(hour)
    return found


def _least_or_none(house):
    try:
        return least_people(house)
    except Stuck:
        return None
