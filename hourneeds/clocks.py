"""Clocks: for how many hours those stay who begin at each hour of a round."""

from hourneeds.errors import Overtaken, Wrong
from hourneeds.kinds import MOST_HOURS, is_integer
from hourneeds.rounds import check_hour, is_row, turned_row


class Clock:
    """The stays of all hours, so that nobody who began later leaves earlier."""

    def __init__(self, stays):
        if not _are_stays(stays):
            raise Wrong(0)
        _check_nobody_overtaken(stays)
        self._stays = tuple(stays)

    @staticmethod
    def even(hours, stay):
        """The Clock of so many hours in which all stay so long."""
        if not _is_from_one(MOST_HOURS, hours):
            raise Wrong(0)
        if not _is_from_one(hours, stay):
            raise Wrong(1)
        return Clock([stay] * hours)

    @property
    def hours(self):
        """How many hours there are."""
        return len(self._stays)

    def __len__(self):
        return len(self._stays)

    def __iter__(self):
        return iter(self._stays)

    def __getitem__(self, at):
        check_hour(len(self._stays), at)
        return self._stays[at]

    def __eq__(self, other):
        return isinstance(other, Clock) and self._stays == other._stays

    def stays(self):
        """The list of the stays."""
        return list(self._stays)

    def widths(self):
        """The list of the widths: how many hours the window of each hour has."""
        return [_width(self._stays, hour) for hour in range(self.hours)]

    def served(self, hour):
        """The hours that one serves who begins at this hour, in the order of time."""
        check_hour(len(self._stays), hour)
        return [at % self.hours for at in range(hour, hour + self._stays[hour])]

    def serving(self, hour):
        """The hours of the window of this hour, in the order of time, itself last."""
        check_hour(len(self._stays), hour)
        first = hour - _width(self._stays, hour) + 1
        return [at % self.hours for at in range(first, hour + 1)]

    def with_stay(self, hour, stay):
        """The Clock with another stay for an hour."""
        check_hour(len(self._stays), hour)
        if not _is_from_one(self.hours, stay):
            raise Wrong(1)
        changed = list(self._stays)
        changed[hour] = stay
        return Clock(changed)

    def turned(self, by):
        """The Clock seen from hour by on: its hour 0 is the hour by of this one."""
        return Clock(turned_row(self._stays, by))

    def mirrored(self):
        """The Clock in which time goes back."""
        return Clock(self.widths()[::-1])


def _is_from_one(most, thing):
    return is_integer(thing) and 1 <= thing <= most


def _are_stays(thing):
    return is_row(thing) and all([_is_from_one(len(thing), item) for item in thing])


def _check_nobody_overtaken(stays):
    for hour, stay in enumerate(stays):
        if stay > stays[(hour + 1) % len(stays)] + 1:
            raise Overtaken(hour)


def _width(stays, hour):
    # Nobody is overtaken, so all who still serve the hour began in one row up to it;
    # and nobody stays longer than a day, so the row ends.
    width = 1
    while stays[(hour - width) % len(stays)] > width:
        width += 1
    return width
