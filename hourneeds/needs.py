"""Needs: how many people each hour of a round needs."""

from hourneeds.errors import Wrong
from hourneeds.kinds import is_count
from hourneeds.rounds import check_alike, check_hour, is_count_row, turned_row


class Needs:
    """The numbers of people that the hours need, one for each hour."""

    def __init__(self, row):
        if not is_count_row(row):
            raise Wrong(0)
        self._row = tuple(row)

    @property
    def hours(self):
        """How many hours there are."""
        return len(self._row)

    @property
    def total(self):
        """The sum of the numbers."""
        return sum(self._row)

    def __len__(self):
        return len(self._row)

    def __iter__(self):
        return iter(self._row)

    def __getitem__(self, at):
        check_hour(len(self._row), at)
        return self._row[at]

    def __eq__(self, other):
        return isinstance(other, Needs) and self._row == other._row

    def __add__(self, other):
        check_alike(len(self._row), len(other._row))
        return Needs([one + two for one, two in zip(self._row, other._row)])

    def __or__(self, other):
        check_alike(len(self._row), len(other._row))
        return Needs([max(one, two) for one, two in zip(self._row, other._row)])

    def __and__(self, other):
        check_alike(len(self._row), len(other._row))
        return Needs([min(one, two) for one, two in zip(self._row, other._row)])

    def __mul__(self, other):
        return Needs([number * other for number in self._row])

    def __rmul__(self, other):
        return Needs([number * other for number in self._row])

    def __lshift__(self, other):
        return Needs(turned_row(self._row, other))

    def __rshift__(self, other):
        return Needs(turned_row(self._row, -other))

    def within(self, other):
        """Whether each number is at most that of the other Needs at the same hour."""
        check_alike(len(self._row), len(other._row))
        return all([one <= two for one, two in zip(self._row, other._row)])

    def with_need(self, hour, number):
        """The Needs with another number for an hour."""
        check_hour(len(self._row), hour)
        if not is_count(number):
            raise Wrong(1)
        changed = list(self._row)
        changed[hour] = number
        return Needs(changed)

    def mirrored(self):
        """The Needs in which time goes back: its hour 0 is the last one of this one."""
        return Needs(self._row[::-1])
