"""What goes round: rows of hours, and the marks between them, which links raise.

A link is a tuple (first, last, days, number, name): mark last of so many days later
has to reach at least so much more than mark first. A day later each mark reaches as
many more as there are people.
"""

from hourneeds.errors import NoHour, Unlike
from hourneeds.kinds import MOST_HOURS, are_counts, is_hour


def is_row(thing):
    """Whether thing is a list or tuple of as many items as a round may have hours."""
    return isinstance(thing, (list, tuple)) and 1 <= len(thing) <= MOST_HOURS


def is_count_row(thing):
    """Whether thing is such a row of integers from 0 on."""
    return is_row(thing) and are_counts(len(thing), thing)


def check_hour(hours, thing):
    """Raises NoHour unless thing is one of so many hours."""
    if not is_hour(hours, thing):
        raise NoHour(thing)


def check_alike(one, other):
    """Raises Unlike unless two numbers, of hours or of people, are the same."""
    if one != other:
        raise Unlike()


def turned_row(row, by):
    """The row seen from hour by on: its item 0 is the item by of this one, round about."""
    first = by % len(row)
    return row[first:] + row[:first]


def settle(links, people, marks):
    """What the marks reach, from these numbers on, when with so many people no link asks for more, and None.

    If some links raise one another for ever: None, and the list of their names, each of them
    behind that of the link that leads to it.
    """
    asking = [(first, last, number - days * people, name) for first, last, days, number, name in links]
    reached = list(marks)
    taken = [None] * len(reached)
    raised = None
    for _ in range(len(reached)):
        raised = _go_round(asking, reached, taken)
        if raised is None:
            return reached, None
    return None, _names_behind(taken, raised)


def _go_round(asking, reached, taken):
    """Raises marks to what the links ask, and returns the mark that was raised last.

    For each mark that is raised, taken keeps where the link begins and its name.
    """
    raised = None
    for first, last, number, name in asking:
        asked = reached[first] + number
        if asked > reached[last]:
            reached[last] = asked
            taken[last] = (first, name)
            raised = last
    return raised


def _names_behind(taken, raised):
    """The names of the links that go round behind a mark that was raised in the last round."""
    # What is raised in a round is raised by a mark that itself was raised at most one round
    # earlier. There were as many rounds as marks, so that many links back one goes round.
    start = raised
    for _ in taken:
        start = taken[start][0]
    mark, name = taken[start]
    names = [name]
    while mark != start:
        mark, name = taken[mark]
        names.append(name)
    return names[::-1]
