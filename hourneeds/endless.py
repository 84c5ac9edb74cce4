"""Plans for all hours, without beginning or end, with so many people a day on average."""

from hourneeds.errors import NoPace, TooLong, Wrong
from hourneeds.houses import House
from hourneeds.kinds import MOST_HOURS, is_fraction
from hourneeds.paces import least_pace, most_pace
from hourneeds.plans import Plan
from hourneeds.rounds import settle
from hourneeds.ways import links_of


class Endless:
    """A plan of a house for ever, at a pace."""

    def __init__(self, house, pace):
        if not isinstance(house, House):
            raise Wrong(0)
        if not is_fraction(pace):
            raise Wrong(1)
        least, most = least_pace(house), most_pace(house)
        if _is_less(pace, least) or most is not None and _is_less(most, pace):
            raise NoPace(pace)
        self._house = house
        self._pace = pace
        self._widths = tuple(house.clock.widths())
        self._reached = tuple(_reached(house, pace))

    @property
    def house(self):
        """The House."""
        return self._house

    @property
    def pace(self):
        """The fraction of how many begin a day on average."""
        return self._pace

    @property
    def period(self):
        """The least number of days after which the begins come again on and on."""
        # So many days later all sums are more by the paces of these days where that is an integer.
        # And it is one where the begins come again: as many people then begin in these days each time.
        return self._pace[1]

    def __call__(self, hour):
        return self.sum_to(hour + 1) - self.sum_to(hour)

    def __eq__(self, other):
        return isinstance(other, Endless) and self._house == other._house and self._pace == other._pace

    def sum_to(self, mark):
        """The sum at a mark: how many begin from mark 0 on up to it, below 0 for a mark ahead of mark 0."""
        hours = len(self._reached)
        above, below = self._pace
        # Rounded up: // rounds down, so it is taken of the number below 0.
        return -(-(self._reached[mark % hours] + mark // hours * above) // below)

    def there(self, hour):
        """How many are there at an hour."""
        width = self._widths[hour % len(self._widths)]
        return self.sum_to(hour + 1) - self.sum_to(hour + 1 - width)

    def plan(self):
        """The Plan of the hours of one period, from hour 0 on."""
        hours = len(self._reached) * self.period
        if hours > MOST_HOURS:
            raise TooLong(MOST_HOURS)
        return Plan.of_sums([self.sum_to(mark) for mark in range(hours + 1)])


def _is_less(one, other):
    return one[0] * other[1] < other[0] * one[1]


def _reached(house, pace):
    """What walks from mark 0 reach at most at each mark, as many times as great as the pace is divided by."""
    people, many = pace
    links = [(first, last, days, number * many, step) for first, last, days, number, step in links_of(house)]
    kept = house.kept()
    # From what the walks along the keep steps reach: they lead to each mark.
    return settle(links, people, [sum(kept[:mark]) * many for mark in range(house.hours)])[0]
