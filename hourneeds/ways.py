"""Ways: steps of a house, each of which begins at the mark where the one ahead ends."""

from hourneeds.errors import NoStep
from hourneeds.kinds import is_integer


def steps(house):
    """The ascending list of all steps of the house."""
    return list(all_told(house))


def told(house, step):
    """The tuple (first, last, length, value) of a step: its marks, how far it leads, and its value."""
    table = all_told(house)
    if not _is_step(table, step):
        raise NoStep(step)
    return table[step]


def is_way(house, thing):
    """Whether thing, any value, is a way of the house."""
    if not isinstance(thing, list) or len(thing) == 0:
        return False
    table = all_told(house)
    if not all([_is_step(table, item) for item in thing]):
        return False
    # At place 0 the step ahead is thing[-1], the last one.
    return all([table[thing[place - 1]][1] == table[step][0] for place, step in enumerate(thing)])


def turns(house, way):
    """How often the way goes round the clock, below 0 if it goes back."""
    table = all_told(house)
    return sum([table[step][2] for step in way]) // house.hours


def value(house, way):
    """The sum of the values of the steps of the way."""
    table = all_told(house)
    return sum([table[step][3] for step in way])


def bound_of(house, way):
    """The people that the way asks for at least, or allows at most if it goes back, or None if it does neither."""
    round_about, whole = turns(house, way), value(house, way)
    if round_about == 0:
        return None
    if round_about > 0:
        # Rounded up: // rounds down, so it is taken of the number below 0.
        return -(-whole // round_about)
    return whole // round_about


def ring_way(house, ring):
    """The way that goes as a ring of the clock does, by keep steps and need steps."""
    hours, widths = house.hours, house.clock.widths()
    way = []
    for place, hour in enumerate(ring):
        # At place 0 the hour ahead is ring[-1], the last one.
        behind = ring[place - 1] + 1
        many = (hour + 1 - widths[hour] - behind) % hours
        way.extend([("keep", (behind + later) % hours) for later in range(many)])
        way.append(("need", hour))
    return way


def all_told(house):
    """The dict of all steps in ascending order, each with what told tells of it."""
    hours, table = house.hours, {}
    for hour, door in enumerate(house.doors()):
        if door is not None:
            table[("door", hour)] = ((hour + 1) % hours, hour, -1, -door)
    for hour, keep in enumerate(house.kept()):
        table[("keep", hour)] = (hour, (hour + 1) % hours, 1, keep)
    widths, needs = house.clock.widths(), list(house.needs)
    for hour, width in enumerate(widths):
        table[("need", hour)] = ((hour + 1 - width) % hours, (hour + 1) % hours, width, needs[hour])
    for hour, room in enumerate(house.rooms()):
        if room is not None:
            width = widths[hour]
            table[("room", hour)] = ((hour + 1) % hours, (hour + 1 - width) % hours, -width, -room)
    return table


def links_of(house):
    """The links [rounds] of all steps of the house, in ascending order, with the steps as their names."""
    hours, links = house.hours, []
    for step, (first, last, length, number) in all_told(house).items():
        links.append((first, last, (first + length - last) // hours, number, step))
    return links


def _is_step(table, thing):
    if not isinstance(thing, tuple) or len(thing) != 2:
        return False
    word, hour = thing
    # True stands for 1 as a key, and what cannot be hashed is no key: both are ruled out ahead.
    return isinstance(word, str) and is_integer(hour) and thing in table
