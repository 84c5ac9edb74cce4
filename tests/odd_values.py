"""Values of many kinds, for what any value may be passed to."""

from hourneeds.clocks import Clock
from hourneeds.errors import NeedError

GREAT = 10 ** 40 + 7


def nested(depth, make):
    """A value in as many values as depth tells, each made by make of a list of one."""
    value = 0
    for _ in range(depth):
        value = make([value])
    return value


def odd_values():
    """Values that are no integer, no fraction, no row of numbers and no row of stays."""
    return [
        None, True, False, "", "0", "1", "(1, 2)", "a" * 41, b"", b"\x01", (), [], {}, {0: 1}, {1: 2},
        set(), {1}, {1, 2}, frozenset([1]), range(2), slice(0, 1), int, len, Ellipsis,
        [None], (None, None), [True], (False, 1), (1, True), ["1"], [[1]], [(1, 2)], ((1, 2),), {"a": [1]},
        [-1], (-1,), nested(60, list), nested(60, tuple), nested(60, lambda items: {0: items[0]}),
        "x" * 20000, [None] * 19999, tuple([True] * 19999), {number: None for number in range(9999)},
        Clock([1]), [Clock([2, 1])], NeedError("x"),
    ]
