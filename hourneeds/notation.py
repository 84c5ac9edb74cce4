"""Clocks, needs, plans, fractions, ways and houses as texts."""


def show_clock(clock):
    """The text of a Clock: its stays."""
    return _line("clock", clock.stays())


def show_needs(needs):
    """The text of a Needs: its numbers."""
    return _line("needs", list(needs))


def show_plan(plan):
    """The text of a Plan: its begins."""
    return _line("plan", list(plan))


def show_fraction(fraction):
    """The text of a fraction from nought on."""
    above, below = fraction
    return f"{above}/{below}"


def show_way(way):
    """The text of a list of one or more steps."""
    return ", ".join([f"{word} {hour}" for word, hour in way])


def show_house(house):
    """The text of a House: a line for each row of limits in which some limit is told."""
    lines = [show_clock(house.clock), show_needs(house.needs)]
    rooms, kept, doors = house.rooms(), house.kept(), house.doors()
    if rooms != [None] * house.hours:
        lines.append(_line("rooms", rooms))
    if kept != [0] * house.hours:
        lines.append(_line("kept", kept))
    if doors != [None] * house.hours:
        lines.append(_line("doors", doors))
    return "".join([line + "\n" for line in lines])


def show_numbers(numbers):
    """The text of integers, joined by blanks, with - where there is None."""
    return " ".join(["-" if number is None else str(number) for number in numbers])


def _line(word, numbers):
    return word + " " + show_numbers(numbers)
