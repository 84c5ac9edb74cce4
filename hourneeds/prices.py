"""Prices of the limits of a house, which show from the other side what its plans cost at least.

The prices are the loads that the links [costs] bear: what comes to a mark more than goes from it
is the due of the hour ahead of the mark less that of the hour behind it, so that the prices fit
the due of each hour as soon as they fit that of one. The price of a person makes them fit it.
"""

from hourneeds.costs import best_loads
from hourneeds.kinds import are_counts, is_integer
from hourneeds.people import check_possible
from hourneeds.ways import links_of


def are_prices(house, dues, thing):
    """Whether thing, any value, is prices of the house that fit the dues."""
    if not isinstance(thing, tuple) or len(thing) != 5:
        return False
    needs, rooms, keeps, doors, person = thing
    if not all([isinstance(row, list) and are_counts(house.hours, row) for row in (needs, rooms, keeps, doors)]):
        return False
    if not is_integer(person) or not _are_of_limits(house.rooms(), rooms) or not _are_of_limits(house.doors(), doors):
        return False
    return all([_paid(house, thing, hour) == due for hour, due in enumerate(dues)])


def worth(house, people, prices):
    """What the prices are worth with so many people."""
    needs, rooms, keeps, doors, person = prices
    asked = _worth_of(list(house.needs), needs) + _worth_of(house.kept(), keeps)
    allowed = _worth_of(house.rooms(), rooms) + _worth_of(house.doors(), doors)
    return asked - allowed + person * people


def prices_for(house, people, dues):
    """Prices that fit the dues and whose worth is the least cost of a plan with so many people."""
    check_possible(house, people)
    links = links_of(house)
    rows = {word: [0] * house.hours for word in ("need", "room", "keep", "door")}
    for link, load in zip(links, best_loads(links, people, dues)):
        word, hour = link[4]
        rows[word][hour] = load
    needs, rooms, keeps, doors = rows["need"], rows["room"], rows["keep"], rows["door"]
    person = dues[0] - _paid(house, (needs, rooms, keeps, doors, 0), 0)
    return needs, rooms, keeps, doors, person


def _paid(house, prices, hour):
    """What comes of the prices for one who begins at an hour."""
    needs, rooms, keeps, doors, person = prices
    served = house.clock.served(hour)
    return sum([needs[at] - rooms[at] for at in served]) + keeps[hour] - doors[hour] + person


def _are_of_limits(limits, prices):
    return all([price == 0 for limit, price in zip(limits, prices) if limit is None])


def _worth_of(limits, prices):
    return sum([limit * price for limit, price in zip(limits, prices) if limit is not None])
