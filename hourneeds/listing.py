"""All plans of a small house with a few people, in the ascending order of their lists of begins."""

from hourneeds.errors import NoNumber, Unfit
from hourneeds.kinds import is_count
from hourneeds.plans import Plan


def count_plans(house, people):
    """How many plans with so many people the house has."""
    return len(plans(house, people))


def plans(house, people):
    """The list of all plans with so many people."""
    tried = [Plan(begins) for begins in _all_begins(house.hours, people)]
    return [plan for plan in tried if house.allows(plan)]


def plan_at(house, people, number):
    """The plan with this index in the list."""
    found = plans(house, people)
    if not is_count(number) or number >= len(found):
        raise NoNumber(number)
    return found[number]


def plan_number(house, people, thing):
    """The index of a plan in the list."""
    if not house.allows(thing) or thing.people != people:
        raise Unfit()
    return plans(house, people).index(thing)


def _all_begins(hours, people):
    """All lists of so many begins with this sum, in ascending order."""
    if hours == 1:
        return [[people]]
    found = []
    for first in range(people + 1):
        found.extend([[first] + rest for rest in _all_begins(hours - 1, people - first)])
    return found
