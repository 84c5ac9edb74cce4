"""Books: a house whose limits and stays are changed deed by deed, so that it always has a plan."""

from hourneeds.errors import Full, NoDeed, NoEntry, NoStep, Nothing, Overtaken, Refused, Stuck, Wrong
from hourneeds.houses import WORDS, WORDS_OF_NONE, House
from hourneeds.kinds import is_count, is_hour
from hourneeds.people import least_people, stuck
from hourneeds.sums import earliest


class Book:
    """The House as it is now, and the log of the deeds that led to it."""

    # The most deeds that the log holds.
    MOST = 200

    def __init__(self, house):
        if not isinstance(house, House):
            raise Wrong(0)
        ways = stuck(house)
        if ways is not None:
            raise Stuck(ways)
        self._first = house
        # Entries (deed, the House behind it), the last one last. The tuples are never changed,
        # only replaced, so that trial can put them back.
        self._done = ()
        self._undone = ()

    @property
    def house(self):
        """The House as it is now."""
        if len(self._done) == 0:
            return self._first
        return self._done[-1][1]

    @property
    def first(self):
        """The House as it was at the beginning."""
        return self._first

    def __len__(self):
        return len(self._done)

    def __iter__(self):
        raise TypeError("a Book is not iterated over")

    def __getitem__(self, at):
        house = self.house
        if not _is_place(house, at):
            raise NoStep(at)
        word, hour = at
        rows = {"need": list(house.needs), "room": house.rooms(), "keep": house.kept(), "door": house.doors(),
                "stay": house.clock.stays()}
        return rows[word][hour]

    def __setitem__(self, at, worth):
        if not isinstance(at, tuple) or len(at) != 2:
            raise NoDeed()
        word, hour = at
        self.do((word, hour, worth))

    def __eq__(self, other):
        return isinstance(other, Book) and self._first == other._first and self.log() == other.log()

    def do(self, deed):
        """Changes the House by a deed."""
        if not _is_deed(self.house, deed):
            raise NoDeed()
        if len(self._done) >= Book.MOST:
            raise Full(Book.MOST)
        house = _house_behind(self.house, deed)
        if house is None:
            raise Refused(deed)
        self._done = self._done + ((deed, house),)
        self._undone = ()

    def log(self):
        """The list of the deeds."""
        return [deed for deed, _ in self._done]

    def back(self):
        """Undoes the last deed and returns it."""
        if len(self._done) == 0:
            raise Nothing()
        entry = self._done[-1]
        self._done = self._done[:-1]
        self._undone = self._undone + (entry,)
        return entry[0]

    def again(self):
        """Does the deed again that was undone last, and returns it."""
        if len(self._undone) == 0:
            raise Nothing()
        entry = self._undone[-1]
        self._undone = self._undone[:-1]
        self._done = self._done + (entry,)
        return entry[0]

    def past(self, many):
        """A Book with the same first House and the first so many deeds."""
        if not is_count(many) or many > len(self._done):
            raise NoEntry(many)
        return _book_of(self._first, self._done[:many], ())

    def copied(self):
        """A Book that is equal, also in what can be undone and done again, and goes on by itself."""
        return _book_of(self._first, self._done, self._undone)

    def trial(self, act):
        """What act returns of the Book, which then is as it was before."""
        done, undone = self._done, self._undone
        try:
            return act(self)
        finally:
            self._done, self._undone = done, undone

    def needed(self):
        """The least number of people of the House as it is now."""
        return least_people(self.house)

    def plan(self):
        """The earliest Plan with so many people."""
        return earliest(self.house, self.needed())


def _book_of(first, done, undone):
    book = Book(first)
    book._done = done
    book._undone = undone
    return book


def _is_place(house, thing):
    """Whether thing is a tuple of a word of deeds and an hour."""
    if not isinstance(thing, tuple) or len(thing) != 2:
        return False
    word, hour = thing
    return (word == "stay" or word in WORDS) and is_hour(house.hours, hour)


def _is_deed(house, thing):
    if not isinstance(thing, tuple) or len(thing) != 3 or not _is_place(house, thing[:2]):
        return False
    word, _, number = thing
    if word == "stay":
        return is_count(number) and 1 <= number <= house.hours
    return is_count(number) or number is None and word in WORDS_OF_NONE


def _house_behind(house, deed):
    """The House behind a deed, or None if no clock would come, or a House without a plan."""
    word, hour, number = deed
    try:
        changed = house.with_stay(hour, number) if word == "stay" else house.with_limit(word, hour, number)
    except Overtaken:
        return None
    return changed if stuck(changed) is None else None
