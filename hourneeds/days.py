"""Several days in one, so that their plans may be unlike."""

from hourneeds.clocks import Clock
from hourneeds.errors import NoDays, TooLong
from hourneeds.houses import House
from hourneeds.kinds import MOST_HOURS
from hourneeds.needs import Needs
from hourneeds.paces import least_pace, most_pace


def in_days(house, days):
    """The House of so many days in one, with all limits of the house on each day."""
    if house.hours * days > MOST_HOURS:
        raise TooLong(MOST_HOURS)
    clock, needs = Clock(house.clock.stays() * days), Needs(list(house.needs) * days)
    return House(clock, needs, rooms=house.rooms() * days, kept=house.kept() * days, doors=house.doors() * days)


def days_people(house, days):
    """The tuple (least, greatest) of the numbers of people of the plans of so many days in one."""
    people = _people_of(least_pace(house), most_pace(house), days)
    if people is None:
        raise NoDays(days)
    return people


def fewest_days(house):
    """The least number of days in one that have a plan."""
    least, most = least_pace(house), most_pace(house)
    days = 1
    # As many days as the least pace is divided by have one at the latest.
    while _people_of(least, most, days) is None:
        days += 1
    return days


def _people_of(least, most, days):
    """The least and the greatest integer from so many days times one pace to as many times the other, or None."""
    # Rounded up: // rounds down, so it is taken of the number below 0.
    fewest = -(-days * least[0] // least[1])
    if most is None:
        return fewest, None
    greatest = days * most[0] // most[1]
    if fewest > greatest:
        return None
    return fewest, greatest
