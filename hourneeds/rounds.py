"""What clocks, needs and plans have in common: each is a row of hours that goes round."""

from hourneeds.errors import NoHour, Unlike
from hourneeds.kinds import MOST_HOURS, are_counts, is_hour


def is_row(thing):
    """Whether thing is a list or tuple of as many items as a round may have hours."""
    return isinstance(thing, (list, tuple)) and 1 <= len(thing) <= MOST_HOURS


def is_count_row(thing):
    """Whether thing is such a row of integers from 0 on."""
    return is_row(thing) and are_counts(len(thing), thing)


def check_hour(hours, thing):
    """Raises NoHour unless thing is one of so many hours."""
    if not is_hour(hours, thing):
        raise NoHour(thing)


def check_alike(one, other):
    """Raises Unlike unless two numbers, of hours or of people, are the same."""
    if one != other:
        raise Unlike()


def turned_row(row, by):
    """The row seen from hour by on: its item 0 is the item by of this one, round about."""
    first = by % len(row)
    return row[first:] + row[:first]
