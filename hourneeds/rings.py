"""Rings: hours whose windows lie one behind another, and whose needs ask for so many people."""

from hourneeds.kinds import is_hour
from hourneeds.rounds import check_alike, check_hour


def step_hours(clock, hour, later):
    """By how many hours one goes on in a ring from an hour to a later one."""
    check_hour(clock.hours, hour)
    check_hour(clock.hours, later)
    return _step_hours(clock.widths(), hour, later)


def winds(clock, ring):
    """How many times the ring goes round the clock."""
    widths = clock.widths()
    # At place 0 the hour ahead is ring[-1], the last one.
    steps = [_step_hours(widths, ring[place - 1], hour) for place, hour in enumerate(ring)]
    return sum(steps) // clock.hours


def bound(clock, needs, ring):
    """How many people the needs of the ring ask for at least."""
    check_alike(clock.hours, needs.hours)
    numbers = list(needs)
    needed = sum([numbers[hour] for hour in ring])
    # Rounded up: // rounds down, so it is taken of the number below 0.
    return -(-needed // winds(clock, ring))


def is_ring(clock, needs, number, thing):
    """Whether thing is a ring whose bound is at least number."""
    check_alike(clock.hours, needs.hours)
    if not isinstance(thing, list) or len(thing) == 0:
        return False
    if not all([is_hour(clock.hours, item) for item in thing]):
        return False
    return bound(clock, needs, thing) >= number


def _step_hours(widths, hour, later):
    width = widths[later]
    return width + (later - width - hour) % len(widths)
