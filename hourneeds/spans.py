"""How many begin in some hours in a row, or are there, in the plans of a house with one number of people."""

from hourneeds.errors import OutOf
from hourneeds.kinds import is_integer
from hourneeds.people import check_possible, plan_meeting
from hourneeds.rounds import check_hour
from hourneeds.sums import sum_ranges
from hourneeds.ways import all_told


def span_range(house, people, mark, length):
    """The tuple (least, greatest) of how many begin at so many hours from hour mark on."""
    check_hour(house.hours, mark)
    # Of the turned house other ways would be raised than of this one.
    check_possible(house, people)
    return _ranges_from(house, people, mark)[length]


def begin_range(house, people, hour):
    """The tuple (least, greatest) of how many begin at an hour."""
    return span_range(house, people, hour, 1)


def there_range(house, people, hour):
    """The tuple (least, greatest) of how many are there at an hour."""
    window = house.clock.serving(hour)
    return span_range(house, people, window[0], len(window))


def plan_with(house, people, mark, length, number):
    """A Plan with so many people in which just number begin at so many hours from hour mark on."""
    least, greatest = span_range(house, people, mark, length)
    if not is_integer(number) or not least <= number <= greatest:
        raise OutOf(least, greatest)
    days, last = (mark + length) // house.hours, (mark + length) % house.hours
    at_least, at_most = (mark, last, days, number, None), (last, mark, -days, -number, None)
    return plan_meeting(house, people, [at_least, at_most])


def tight(house, people):
    """The ascending list of the steps whose limit every plan with so many people just meets."""
    check_possible(house, people)
    ranges = [_ranges_from(house, people, mark) for mark in range(house.hours)]
    return [step for step, step_told in all_told(house).items() if _is_met(ranges, step_told)]


def is_only(house, people):
    """Whether there is just one plan with so many people."""
    return all([least == greatest for least, greatest in sum_ranges(house, people)])


def _ranges_from(house, people, mark):
    """The ranges of how many begin from hour mark on, at 0 hours, at one hour and so on up to all hours."""
    return sum_ranges(house.turned(mark), people)


def _is_met(ranges, step_told):
    """Whether how many begin along a step is never more than its limit, or, if it leads back, never less."""
    first, last, length, number = step_told
    if length > 0:
        return ranges[first][length][1] == number
    return ranges[last][-length][0] == -number
