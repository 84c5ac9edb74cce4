"""The numbers of people of the plans of a house, shown by plans and by ways.

The sums of a plan keep a house just if no step asks more of a mark than it has. So a number
of people is possible just if the marks can be settled with it; else steps that raise one
another for ever are a way against it.
"""

from hourneeds.errors import Impossible, Stuck
from hourneeds.plans import Plan
from hourneeds.rounds import settle
from hourneeds.ways import bound_of, is_way, links_of, turns, value


def least_people(house):
    """The least number of people of a plan of the house."""
    # No plan has fewer people than must begin.
    return _nearest_possible(house, _some_people(house), sum(house.kept()))


def most_people(house):
    """The greatest number of people of a plan of the house, or None if there is none."""
    possible = _some_people(house)
    way = way_against(house, _beyond(house))
    if way is None:
        return None
    return _nearest_possible(house, possible, bound_of(house, way))


def stuck(house):
    """A list of ways which shows that the house has no plan, or None if it has one."""
    try:
        _some_people(house)
    except Stuck as error:
        return error.ways
    return None


def are_stuck(house, thing):
    """Whether thing, any value, is a list of ways which shows that the house has no plan."""
    if not are_forth_and_back(house, thing):
        return is_shown_by_one(house, thing)
    forth, back = thing
    return bound_of(house, forth) > bound_of(house, back)


def is_possible(house, people):
    """Whether the house has a plan with so many people."""
    return way_against(house, people) is None


def some_plan(house, people):
    """A Plan of the house with so many people."""
    check_possible(house, people)
    return plan_meeting(house, people, [])


def way_against(house, people):
    """A way whose value is greater than its turns times people, or None if there is a plan with so many."""
    return settle(links_of(house), people, [0] * house.hours)[1]


def is_against(house, people, thing):
    """Whether thing, any value, is a way whose value is greater than its turns times people."""
    return is_way(house, thing) and value(house, thing) > turns(house, thing) * people


def are_forth_and_back(house, thing):
    """Whether thing, any value, is a list of two ways, with turns above 0 and with turns below 0."""
    if not isinstance(thing, list) or len(thing) != 2:
        return False
    if not all([is_way(house, way) for way in thing]):
        return False
    forth, back = thing
    return turns(house, forth) > 0 and turns(house, back) < 0


def is_shown_by_one(house, thing):
    """Whether thing, any value, is a list of one way with turns of 0 and a value above 0."""
    if not isinstance(thing, list) or len(thing) != 1 or not is_way(house, thing[0]):
        return False
    return turns(house, thing[0]) == 0 and value(house, thing[0]) > 0


def check_possible(house, people):
    """Raises Impossible unless the house has a plan with so many people."""
    way = way_against(house, people)
    if way is not None:
        raise Impossible(way)


def plan_meeting(house, people, links):
    """A Plan of the house with so many people that meets these links [rounds], too, where there is one."""
    reached = settle(links_of(house) + links, people, [0] * house.hours)[0]
    return Plan.of_sums([mark - reached[0] for mark in reached] + [people])


def _nearest_possible(house, possible, bound):
    """The possible number of people nearest to a bound, found from a possible one on by halving."""
    while possible != bound:
        half = abs(bound - possible) // 2
        middle = bound - half if bound > possible else bound + half
        way = way_against(house, middle)
        if way is None:
            possible = middle
        else:
            bound = bound_of(house, way)
    return possible


def _some_people(house):
    """A number of people that is possible; raises Stuck if there is none."""
    people = _beyond(house)
    forth, back = [("keep", hour) for hour in range(house.hours)], None
    way = way_against(house, people)
    while way is not None:
        round_about = turns(house, way)
        if round_about == 0:
            raise Stuck([way])
        # The first way, which is against so many people, cannot have turns above 0.
        if round_about > 0:
            forth = way
        else:
            back = way
        people = _people_between(house, forth, back)
        way = way_against(house, people)
    return people


def _people_between(house, forth, back):
    """The middle of the numbers that two ways leave; raises Stuck if they leave none."""
    least, most = bound_of(house, forth), bound_of(house, back)
    if least > most:
        raise Stuck([forth, back])
    return (least + most) // 2


def _beyond(house):
    """So many people that no way with turns above 0 is against them, and each with turns below 0 is.

    So it is of ways that come to no mark twice, as those of way_against are.
    """
    return 1 + sum([abs(link[3]) for link in links_of(house)])
