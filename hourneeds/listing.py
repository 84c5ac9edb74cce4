"""All plans of a small house with a few people, in the ascending order of their lists of begins.

The sums of plans ascend as their begins do, so they are laid down mark by mark. All steps of the
house together tell of each two marks how much more the one has to reach than the other: each
number that this leaves to a mark, behind those laid down ahead, goes on to some plan. So plans
are counted, and passed over, without being listed.
"""

from hourneeds.errors import NoNumber, Unfit
from hourneeds.kinds import is_count
from hourneeds.plans import Plan
from hourneeds.ways import links_of


def count_plans(house, people):
    """How many plans with so many people the house has."""
    asked = _asked(house, people)
    if asked is None:
        return 0
    return _count(asked, [0])


def plans(house, people):
    """The list of all plans with so many people."""
    asked = _asked(house, people)
    if asked is None:
        return []
    rows = [[0]]
    for _ in range(1, house.hours):
        rows = [sums + [reached] for sums in rows for reached in _left(asked, sums)]
    return [Plan.of_sums(sums + [people]) for sums in rows]


def plan_at(house, people, number):
    """The plan with this index in the list."""
    asked = _asked(house, people)
    if asked is None or not is_count(number):
        raise NoNumber(number)
    sums, over = [0], number
    for _ in range(1, house.hours):
        # All plans whose next sum is less stand ahead.
        for reached in _left(asked, sums):
            many = _count(asked, sums + [reached])
            if over < many:
                break
            over -= many
        else:
            raise NoNumber(number)
        sums = sums + [reached]
    # With one hour alone there is just one plan.
    if over > 0:
        raise NoNumber(number)
    return Plan.of_sums(sums + [people])


def plan_number(house, people, thing):
    """The index of a plan in the list."""
    if not house.allows(thing) or thing.people != people:
        raise Unfit()
    asked, sums = _asked(house, people), thing.sums()
    over = 0
    for mark in range(1, house.hours):
        less = [reached for reached in _left(asked, sums[:mark]) if reached < sums[mark]]
        over += sum([_count(asked, sums[:mark] + [reached]) for reached in less])
    return over


def _asked(house, people):
    """For each mark a pair of lists with an item for each mark ahead of it, or None if there is no plan.

    The items of the first one tell how much more the mark has to reach than the one ahead, those
    of the second one how much more the one ahead than the mark, perhaps below 0.
    """
    hours = house.hours
    # From mark 0 up to a day later the sums never fall.
    more = [[0 if mark <= later else -people for later in range(hours)] for mark in range(hours)]
    for first, last, days, number, _ in links_of(house):
        more[first][last] = max(more[first][last], number - days * people)
    for middle in range(hours):
        behind = more[middle]
        more = [[max(straight, row[middle] + added) for straight, added in zip(row, behind)] for row in more]
    if max([more[mark][mark] for mark in range(hours)]) > 0:
        return None
    return [([row[mark] for row in more[:mark]], more[mark][:mark]) for mark in range(hours)]


def _left(asked, sums):
    """The list of what the next mark can reach behind these sums."""
    forth, back = asked[len(sums)]
    least = max([reached + more for reached, more in zip(sums, forth)])
    greatest = min([reached - more for reached, more in zip(sums, back)])
    return list(range(least, greatest + 1))


def _count(asked, sums):
    """How many plans have these sums at the first marks."""
    if len(sums) == len(asked):
        return 1
    left = _left(asked, sums)
    if len(sums) + 1 == len(asked):
        return len(left)
    return sum([_count(asked, sums + [reached]) for reached in left])
