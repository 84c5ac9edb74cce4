"""The cheapest plans of a house, where each who begins at an hour costs the due of that hour.

But for what all plans with so many people cost alike, a plan costs the sum of its sums at the
marks, each times the due of the hour ahead of the mark less the due of the hour behind it. The
least cost is found from the other side: loads are borne along the links [rounds], so that just
that much more comes to each mark than goes from it. What the loads are worth, each by the number
of its link, is never more than a plan costs. So loads worth the most are found, and a plan that
costs no more: it just meets each link that bears something.
"""

from hourneeds.people import check_possible, least_people, most_people, plan_meeting
from hourneeds.ways import links_of


def cost_of(plan, dues):
    """What the plan costs."""
    return sum([begin * due for begin, due in zip(plan, dues)])


def least_cost(house, people, dues):
    """The least cost of a plan of the house with so many people."""
    return cost_of(cheap_plan(house, people, dues), dues)


def cheap_plan(house, people, dues):
    """A Plan of the house with so many people that costs the least."""
    check_possible(house, people)
    links = links_of(house)
    loads = best_loads(links, people, dues)
    bearing = [link for link, load in zip(links, loads) if load > 0]
    # Turned round, a link asks that no more is reached than it asks for.
    just = [(last, first, -days, -number, step) for first, last, days, number, step in bearing]
    return plan_meeting(house, people, just)


def cheap_people(house, dues):
    """The least number of people with which a plan costs as little as any plan of the house."""
    least, most = least_people(house), most_people(house)
    if most is None:
        # Each person more, as long as that makes it cheaper, saves one at least.
        most = least + least_cost(house, least, dues)
    while least < most:
        middle = (least + most) // 2
        if least_cost(house, middle + 1, dues) < least_cost(house, middle, dues):
            least = middle + 1
        else:
            most = middle
    return least


def best_loads(links, people, dues):
    """What each link bears, so that the loads are worth the most with so many people."""
    loads = [0] * len(links)
    # So much more has to come to each mark than goes from it.
    lacks = [dues[mark - 1] - due for mark, due in enumerate(dues)]
    while max(lacks) > 0:
        source = [mark for mark, lack in enumerate(lacks) if lack < 0][0]
        sink = [mark for mark, lack in enumerate(lacks) if lack > 0][0]
        path = _best_path(_open_links(links, people, loads), len(dues), source, sink)
        most = min([-lacks[source], lacks[sink]] + [loads[at] for at, sign in path if sign < 0])
        for at, sign in path:
            loads[at] += sign * most
        lacks[source] += most
        lacks[sink] -= most
    return loads


def _open_links(links, people, loads):
    """Each link, and turned round each that bears something, as (first, last, worth, at, sign).

    At is its place among the links, sign -1 if it is turned round.
    """
    # Among paths worth the same, that of the fewest links is the best: else the load of a link
    # might be put on and taken off again, little by little. No path has as many links as this.
    many = len(links)
    found = []
    for at, (first, last, days, number, _) in enumerate(links):
        worth = (number - days * people) * many
        found.append((first, last, worth - 1, at, 1))
        if loads[at] > 0:
            found.append((last, first, -worth - 1, at, -1))
    return found


def _best_path(open_links, marks, source, sink):
    """The list of the tuples (at, sign) of the links of the path from source to sink that is worth the most."""
    reached, taken = [None] * marks, [None] * marks
    reached[source] = 0
    # No links that go round are worth anything, so this comes to an end.
    raised = True
    while raised:
        raised = False
        for first, last, worth, at, sign in open_links:
            if reached[first] is None:
                continue
            if reached[last] is None or reached[first] + worth > reached[last]:
                reached[last] = reached[first] + worth
                taken[last] = (first, at, sign)
                raised = True
    path, mark = [], sink
    while mark != source:
        mark, at, sign = taken[mark]
        path.append((at, sign))
    return path
