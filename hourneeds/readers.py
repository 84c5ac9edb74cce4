"""Texts [notation] read back: what is read has just the text that it is read from."""

from hourneeds.clocks import Clock
from hourneeds.errors import NoText, Overtaken, Wrong
from hourneeds.houses import WORDS, House
from hourneeds.kinds import MOST_HOURS, is_fraction
from hourneeds.needs import Needs
from hourneeds.notation import show_house
from hourneeds.plans import Plan

# The most digits that a number in a text may have.
MOST_DIGITS = 40


def read_clock(text):
    """The Clock with this text."""
    stays = _numbers_behind("clock", text)
    try:
        return Clock(stays)
    except (Wrong, Overtaken):
        raise NoText() from None


def read_needs(text):
    """The Needs with this text."""
    row = _numbers_behind("needs", text)
    try:
        return Needs(row)
    except Wrong:
        raise NoText() from None


def read_plan(text):
    """The Plan with this text."""
    begins = _numbers_behind("plan", text)
    try:
        return Plan(begins)
    except Wrong:
        raise NoText() from None


def read_fraction(text):
    """The fraction with this text."""
    fraction = tuple([_number(part) for part in _parts(text, "/")])
    if not is_fraction(fraction):
        raise NoText()
    return fraction


def read_way(text):
    """The list of steps with this text."""
    return [_step(part) for part in _parts(text, ", ")]


def read_house(text):
    """The House with this text."""
    lines = _parts(text, "\n")
    if len(lines) < 2:
        raise NoText()
    clock, needs = read_clock(lines[0]), read_needs(lines[1])
    limits = {}
    for line in lines[2:-1]:
        word, *parts = line.split(" ")
        limits[word] = [None if part == "-" else _number(part) for part in parts]
    try:
        house = House(clock, needs, rooms=limits.get("rooms"), kept=limits.get("kept"), doors=limits.get("doors"))
    except Wrong:
        raise NoText() from None
    # So the lines have the right words, stand in their order, each once, none without a limit,
    # and the last one ends.
    if show_house(house) != text:
        raise NoText()
    return house


def is_number(text):
    """Whether a string is an integer from 0 on of at most forty digits, without leading zeros."""
    if not text.isascii() or not text.isdigit() or len(text) > MOST_DIGITS:
        return False
    return text == "0" or text[0] != "0"


def _parts(text, between):
    """The parts of a text with this string between them; raises NoText for what is no string."""
    if not isinstance(text, str):
        raise NoText()
    return text.split(between)


def _number(text):
    if not is_number(text):
        raise NoText()
    return int(text)


def _numbers_behind(word, text):
    """The list of the integers of a text that is this word and integers, each behind a blank."""
    first, *parts = _parts(text, " ")
    if first != word:
        raise NoText()
    return [_number(part) for part in parts]


def _step(text):
    word, _, hour = text.partition(" ")
    if word not in WORDS or _number(hour) >= MOST_HOURS:
        raise NoText()
    return word, int(hour)
