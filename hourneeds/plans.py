"""Plans: how many people begin at each hour of a round, the same on each day."""

from hourneeds.errors import NoBegin, Wrong
from hourneeds.kinds import MOST_HOURS, is_integer
from hourneeds.rounds import check_alike, check_hour, is_count_row, turned_row


class Plan:
    """The numbers of people who begin, one for each hour."""

    def __init__(self, begins):
        if not is_count_row(begins):
            raise Wrong(0)
        self._begins = tuple(begins)

    @staticmethod
    def of_sums(sums):
        """The Plan with these sums at the marks, from mark 0 to the one behind the last hour."""
        if not _are_sums(sums):
            raise Wrong(0)
        return Plan([sums[mark] - sums[mark - 1] for mark in range(1, len(sums))])

    @property
    def hours(self):
        """How many hours there are."""
        return len(self._begins)

    @property
    def people(self):
        """How many people begin in a day."""
        return sum(self._begins)

    def __len__(self):
        return len(self._begins)

    def __iter__(self):
        return iter(self._begins)

    def __getitem__(self, at):
        check_hour(len(self._begins), at)
        return self._begins[at]

    def __eq__(self, other):
        return isinstance(other, Plan) and self._begins == other._begins

    def __and__(self, other):
        _check_same_people(self._begins, other._begins)
        return Plan.of_sums([min(one, two) for one, two in _sum_pairs(self._begins, other._begins)])

    def __or__(self, other):
        _check_same_people(self._begins, other._begins)
        return Plan.of_sums([max(one, two) for one, two in _sum_pairs(self._begins, other._begins)])

    def __add__(self, other):
        check_alike(len(self._begins), len(other._begins))
        return Plan([one + two for one, two in zip(self._begins, other._begins)])

    def sums(self):
        """The list of the sums at all marks, one more than there are hours."""
        return _sums(self._begins)

    def within(self, other):
        """Whether no sum is greater than that of the other Plan at the same mark."""
        _check_same_people(self._begins, other._begins)
        return all([one <= two for one, two in _sum_pairs(self._begins, other._begins)])

    def there(self, clock):
        """The list of how many are there at each hour."""
        check_alike(len(self._begins), clock.hours)
        windows = [clock.serving(hour) for hour in range(clock.hours)]
        return [sum([self._begins[begun] for begun in window]) for window in windows]

    def is_enough(self, clock, needs):
        """Whether at each hour there are at least as many as it needs."""
        return len(self.lacking(clock, needs)) == 0

    def lacking(self, clock, needs):
        """The ascending list of the hours at which there are fewer than they need."""
        there = self.there(clock)
        check_alike(len(self._begins), needs.hours)
        return [hour for hour, number in enumerate(needs) if there[hour] < number]

    def later(self, hour):
        """The Plan in which one of those who begin at this hour begins an hour later."""
        return self._moved(hour, 1)

    def earlier(self, hour):
        """The Plan in which one of those who begin at this hour begins an hour earlier."""
        return self._moved(hour, -1)

    def turned(self, by):
        """The Plan seen from hour by on: its hour 0 is the hour by of this one."""
        return Plan(turned_row(self._begins, by))

    def _moved(self, hour, by):
        check_hour(len(self._begins), hour)
        if self._begins[hour] == 0:
            raise NoBegin(hour)
        begins = list(self._begins)
        begins[hour] -= 1
        begins[(hour + by) % len(begins)] += 1
        return Plan(begins)


def _sums(begins):
    sums = [0]
    for begin in begins:
        sums.append(sums[-1] + begin)
    return sums


def _sum_pairs(one, other):
    return list(zip(_sums(one), _sums(other)))


def _check_same_people(one, other):
    check_alike(len(one), len(other))
    check_alike(sum(one), sum(other))


def _are_sums(thing):
    if not isinstance(thing, (list, tuple)) or not 2 <= len(thing) <= MOST_HOURS + 1:
        return False
    if not all([is_integer(item) for item in thing]):
        return False
    return thing[0] == 0 and all([thing[mark - 1] <= thing[mark] for mark in range(1, len(thing))])
