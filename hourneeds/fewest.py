"""How few people are enough for needs without limits, shown by a plan and by a ring.

The sums of a plan are enough just if no step asks more of a mark than it has:
a need step as many as the hour needs, a keep step not fewer than the mark ahead.
So marks are raised, round after round, until no step asks for more, or until
steps that raise one another for ever show a ring that needs more people.
"""

from hourneeds.errors import TooFew
from hourneeds.plans import Plan
from hourneeds.rings import bound
from hourneeds.rounds import check_alike, settle


def fewest(clock, needs):
    """The least number of people of a plan that is enough."""
    ring = ring_for(clock, needs)
    if ring is None:
        return 0
    return bound(clock, needs, ring)


def ring_for(clock, needs):
    """A ring whose bound is the fewest people, or None if each need is 0."""
    check_alike(clock.hours, needs.hours)
    numbers = list(needs)
    least = max(numbers)
    if least == 0:
        return None
    ring = [numbers.index(least)]
    # If at each hour as many begin as it needs, they are enough.
    greatest = sum(numbers)
    steps = _steps(clock, needs)
    while least < greatest:
        middle = (least + greatest) // 2
        tighter = _settled(steps, middle)[1]
        if tighter is None:
            greatest = middle
        else:
            ring = tighter
            least = bound(clock, needs, ring)
    return ring


def enough(clock, needs, people):
    """Whether some plan with just so many people is enough."""
    check_alike(clock.hours, needs.hours)
    return _settled(_steps(clock, needs), people)[1] is None


def plan_for(clock, needs, people):
    """A Plan with just so many people that is enough."""
    check_alike(clock.hours, needs.hours)
    reached, ring = _settled(_steps(clock, needs), people)
    if ring is not None:
        raise TooFew(ring)
    # Mark 0 was never raised: the keep steps of a day lead from there to every other mark,
    # so what raised it once would raise it again and again.
    return Plan.of_sums(reached + [people])


def _steps(clock, needs):
    """Links, two for each hour: its keep step, which has None as its name, and its need step, which has the hour."""
    hours = clock.hours
    steps = []
    for hour, width in enumerate(clock.widths()):
        last = (hour + 1) % hours
        steps.append((hour, last, (hour + 1) // hours, 0, None))
        first = (hour + 1 - width) % hours
        steps.append((first, last, (first + width) // hours, needs[hour], hour))
    return steps


def _settled(steps, people):
    """What the marks reach when so many people leave no step asking for more, and None.

    If some steps always ask for more: None, and a ring whose bound is greater than people.
    """
    reached, names = settle(steps, people, [0] * (len(steps) // 2))
    if names is None:
        return reached, None
    return None, [hour for hour in names if hour is not None]
