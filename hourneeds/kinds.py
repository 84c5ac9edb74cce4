"""What kind a value is: thing is any value, the answer is True or False."""

from math import gcd

# The most hours that a row which is handed in may have.
MOST_HOURS = 48


def is_integer(thing):
    """Whether thing is an int, but neither True nor False."""
    return isinstance(thing, int) and not isinstance(thing, bool)


def is_count(thing):
    """Whether thing is an integer from 0 on."""
    return is_integer(thing) and thing >= 0


def is_hour(hours, thing):
    """Whether thing is an integer from 0 to hours - 1."""
    return is_count(thing) and thing < hours


def is_fraction(thing):
    """Whether thing is a tuple (a, b) in lowest terms, b at least 1."""
    if not isinstance(thing, tuple) or len(thing) != 2:
        return False
    above, below = thing
    if not is_integer(above) or not is_integer(below):
        return False
    return below >= 1 and gcd(above, below) == 1


def are_counts(hours, thing):
    """Whether thing is a list or tuple of just so many integers from 0 on."""
    return _is_row(hours, thing) and all([is_count(item) for item in thing])


def are_limits(hours, thing):
    """Whether thing is a list or tuple of just so many integers from 0 on, or None instead."""
    return _is_row(hours, thing) and all([item is None or is_count(item) for item in thing])


def _is_row(hours, thing):
    return isinstance(thing, (list, tuple)) and len(thing) == hours
