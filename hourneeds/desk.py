"""A desk: a Book of a house, led by lines of text."""

from hourneeds.books import Book
from hourneeds.errors import Full, NoCommand, NoDeed, NoHour, Nothing, Refused
from hourneeds.houses import WORDS_OF_NONE
from hourneeds.notation import show_fraction, show_house, show_numbers
from hourneeds.paces import least_pace, most_pace
from hourneeds.people import most_people
from hourneeds.readers import is_number
from hourneeds.spans import begin_range, there_range
from hourneeds.sums import latest

# How many numbers stand behind each word; two stand behind those of deeds.
NUMBERS = {"need": 2, "room": 2, "keep": 2, "door": 2, "stay": 2, "begins": 1, "there": 1, "back": 0, "again": 0,
           "house": 0, "people": 0, "plan": 0, "late": 0, "pace": 0, "often": 0}


class Desk:
    """Answers lines that change or ask a Book."""

    def __init__(self, house):
        self._book = Book(house)

    def execute(self, line):
        """The answer to a line."""
        word, numbers = _command(line)
        try:
            return _answer(self._book, word, numbers)
        except (Full, NoDeed, NoHour, Nothing, Refused):
            return "refused"


def _command(line):
    """The word of a line and the list of its numbers."""
    if not isinstance(line, str):
        raise NoCommand()
    word, *parts = line.split(" ")
    if word not in NUMBERS or len(parts) != NUMBERS[word]:
        raise NoCommand()
    return word, [_number(word, place, part) for place, part in enumerate(parts)]


def _number(word, place, part):
    if part == "-" and place == 1 and word in WORDS_OF_NONE:
        return None
    if not is_number(part):
        raise NoCommand()
    return int(part)


def _answer(book, word, numbers):
    if len(numbers) == 2:
        book.do((word, numbers[0], numbers[1]))
        return "ok"
    if word == "begins":
        return show_numbers(begin_range(book.house, book.needed(), numbers[0]))
    if word == "there":
        return show_numbers(there_range(book.house, book.needed(), numbers[0]))
    tell = TOLD[word]
    return tell(book)


def _show_deed(deed):
    word, hour, number = deed
    return word + " " + show_numbers([hour, number])


def _back(book):
    return _show_deed(book.back())


def _again(book):
    return _show_deed(book.again())


def _house(book):
    return show_house(book.house)


def _people(book):
    return show_numbers([book.needed(), most_people(book.house)])


def _plan(book):
    return show_numbers(list(book.plan()))


def _late(book):
    return show_numbers(list(latest(book.house, book.needed())))


def _pace(book):
    most = most_pace(book.house)
    return show_fraction(least_pace(book.house)) + " " + ("-" if most is None else show_fraction(most))


def _often(book):
    return show_numbers([len(book)])


TOLD = {"back": _back, "again": _again, "house": _house, "people": _people, "plan": _plan, "late": _late,
        "pace": _pace, "often": _often}
