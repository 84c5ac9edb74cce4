"""How few people are enough for needs without limits, shown by a plan and by a ring.

The sums of a plan are enough just if no step asks more of a mark than it has:
a need step as many as the hour needs, a keep step not fewer than the mark ahead.
So marks are raised, round after round, until no step asks for more, or until
steps that raise one another for ever show a ring that needs more people.
"""

from hourneeds.errors import TooFew
from hourneeds.plans import Plan
from hourneeds.rings import bound
from hourneeds.rounds import check_alike


def fewest(clock, needs):
    """The least number of people of a plan that is enough."""
    ring = ring_for(clock, needs)
    if ring is None:
        return 0
    return bound(clock, needs, ring)


def ring_for(clock, needs):
    """A ring whose bound is the fewest people, or None if each need is 0."""
    check_alike(clock.hours, needs.hours)
    numbers = list(needs)
    least = max(numbers)
    if least == 0:
        return None
    ring = [numbers.index(least)]
    # If at each hour as many begin as it needs, they are enough.
    greatest = sum(numbers)
    steps = _steps(clock, needs)
    while least < greatest:
        middle = (least + greatest) // 2
        tighter = _settle(steps, middle)[1]
        if tighter is None:
            greatest = middle
        else:
            ring = tighter
            least = bound(clock, needs, ring)
    return ring


def enough(clock, needs, people):
    """Whether some plan with just so many people is enough."""
    check_alike(clock.hours, needs.hours)
    return _settle(_steps(clock, needs), people)[1] is None


def plan_for(clock, needs, people):
    """A Plan with just so many people that is enough."""
    check_alike(clock.hours, needs.hours)
    reached, ring = _settle(_steps(clock, needs), people)
    if ring is not None:
        raise TooFew(ring)
    # Mark 0 was never raised: the keep steps of a day lead from there to every other mark,
    # so what raised it once would raise it again and again.
    return Plan.of_sums(reached + [people])


def _steps(clock, needs):
    """Two for each hour, its keep step and its need step, as tuples (first, last, days, value, hour).

    A step leads from mark first to mark last of so many days later; a keep step has None as its hour.
    """
    hours = clock.hours
    steps = []
    for hour, width in enumerate(clock.widths()):
        last = (hour + 1) % hours
        steps.append((hour, last, (hour + 1) // hours, 0, None))
        first = (hour + 1 - width) % hours
        steps.append((first, last, (first + width) // hours, needs[hour], hour))
    return steps


def _settle(steps, people):
    """What the marks reach when so many people leave no step asking for more, and None.

    If some steps always ask for more: None, and a ring whose bound is greater than people.
    """
    hours = len(steps) // 2
    reached = [0] * hours
    taken = [None] * hours
    raised = None
    for _ in range(hours):
        raised = _go_round(steps, people, reached, taken)
        if raised is None:
            return reached, None
    return None, _ring_behind(taken, raised)


def _go_round(steps, people, reached, taken):
    """Raises marks to what the steps ask, and returns the mark that was raised last.

    For each mark that is raised, taken keeps where the step begins and its hour.
    """
    raised = None
    for first, last, days, value, hour in steps:
        asked = reached[first] + value - days * people
        if asked > reached[last]:
            reached[last] = asked
            taken[last] = (first, hour)
            raised = last
    return raised


def _ring_behind(taken, raised):
    """The ring of the need steps that go round behind a mark that was raised in the last round."""
    # What is raised in a round is raised by a mark that itself was raised at most one round
    # earlier. There were as many rounds as marks, so that many steps back one goes round.
    start = raised
    for _ in taken:
        start = taken[start][0]
    mark, ring = start, []
    while True:
        mark, hour = taken[mark]
        if hour is not None:
            ring.append(hour)
        if mark == start:
            return ring[::-1]
