"""Houses: a clock, needs and limits, all of which the plans of the house keep."""

from hourneeds.clocks import Clock
from hourneeds.errors import NoStep, Wrong
from hourneeds.kinds import are_counts, are_limits, is_count, is_hour
from hourneeds.needs import Needs
from hourneeds.plans import Plan
from hourneeds.rounds import check_alike, turned_row

WORDS = ("door", "keep", "need", "room")

# A limit that these words tell may be missing.
WORDS_OF_NONE = ("door", "room")


class House:
    """The clock and the needs of a round of hours, and perhaps rooms, kept begins and doors."""

    def __init__(self, clock, needs, *, rooms=None, kept=None, doors=None):
        if not isinstance(clock, Clock):
            raise Wrong(0)
        if not isinstance(needs, Needs) or needs.hours != clock.hours:
            raise Wrong(1)
        if rooms is not None and not are_limits(clock.hours, rooms):
            raise Wrong(2)
        if kept is not None and not are_counts(clock.hours, kept):
            raise Wrong(3)
        if doors is not None and not are_limits(clock.hours, doors):
            raise Wrong(4)
        self._clock = clock
        self._needs = needs
        self._rooms = _filled_row(clock.hours, rooms, None)
        self._kept = _filled_row(clock.hours, kept, 0)
        self._doors = _filled_row(clock.hours, doors, None)

    @property
    def hours(self):
        """How many hours there are."""
        return len(self._rooms)

    @property
    def clock(self):
        """The Clock."""
        return self._clock

    @property
    def needs(self):
        """The Needs."""
        return self._needs

    def __eq__(self, other):
        return (isinstance(other, House) and self._clock == other._clock and self._needs == other._needs
                and self._rooms == other._rooms and self._kept == other._kept and self._doors == other._doors)

    def rooms(self):
        """The list of how many may be there at most at each hour, None where there is no such limit."""
        return list(self._rooms)

    def kept(self):
        """The list of how many must begin at least at each hour."""
        return list(self._kept)

    def doors(self):
        """The list of how many may begin at most at each hour, None where there is no such limit."""
        return list(self._doors)

    def allows(self, thing):
        """Whether thing, any value, is a plan of the house."""
        return isinstance(thing, Plan) and thing.hours == self.hours and len(self.broken(thing)) == 0

    def broken(self, plan):
        """The ascending list of the steps that the plan does not keep."""
        check_alike(self.hours, plan.hours)
        begins, there = list(plan), plan.there(self._clock)
        doors = _steps_above("door", begins, self._doors)
        keeps = _steps_below("keep", begins, self._kept)
        needs = _steps_below("need", there, list(self._needs))
        return doors + keeps + needs + _steps_above("room", there, self._rooms)

    def with_limit(self, word, hour, number):
        """The House with another limit: a need, a room, a number of kept begins or a door."""
        if word not in WORDS or not is_hour(self.hours, hour):
            raise NoStep((word, hour))
        if not is_count(number) and (number is not None or word not in WORDS_OF_NONE):
            raise Wrong(2)
        rows = {"need": list(self._needs), "room": self.rooms(), "keep": self.kept(), "door": self.doors()}
        rows[word][hour] = number
        return House(self._clock, Needs(rows["need"]), rooms=rows["room"], kept=rows["keep"], doors=rows["door"])

    def with_stay(self, hour, stay):
        """The House whose Clock has another stay for an hour."""
        clock = self._clock.with_stay(hour, stay)
        return House(clock, self._needs, rooms=self._rooms, kept=self._kept, doors=self._doors)

    def turned(self, by):
        """The House seen from hour by on: its hour 0 is the hour by of this one."""
        rooms, kept, doors = [turned_row(row, by) for row in (self._rooms, self._kept, self._doors)]
        return House(self._clock.turned(by), self._needs << by, rooms=rooms, kept=kept, doors=doors)


def _filled_row(hours, row, item):
    if row is None:
        return (item,) * hours
    return tuple(row)


def _steps_below(word, numbers, limits):
    return [(word, hour) for hour, limit in enumerate(limits) if numbers[hour] < limit]


def _steps_above(word, numbers, limits):
    return [(word, hour) for hour, limit in enumerate(limits) if limit is not None and numbers[hour] > limit]
