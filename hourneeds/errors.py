"""The errors of the package: all stand under NeedError, none under another one.

Each keeps the very objects that it is made of. Those without arguments have a
constructor, too, since that of ValueError takes whatever it is given.
"""


class NeedError(ValueError):
    """What all errors of the package are; it is not raised itself."""


class Wrong(NeedError):
    """An argument is not as described: the one at this place, counted from 0."""

    def __init__(self, place):
        self.place = place


class Overtaken(NeedError):
    """Who begins at this hour would stay longer than who begins at the next one."""

    def __init__(self, hour):
        self.hour = hour


class NoHour(NeedError):
    """This is no hour."""

    def __init__(self, hour):
        self.hour = hour


class Unlike(NeedError):
    """Things that should agree in their numbers of hours or people do not."""

    def __init__(self):
        pass


class NoBegin(NeedError):
    """Nobody begins at this hour."""

    def __init__(self, hour):
        self.hour = hour


class TooFew(NeedError):
    """So few people are not enough, as this ring shows."""

    def __init__(self, ring):
        self.ring = ring


class NoStep(NeedError):
    """This is no step."""

    def __init__(self, step):
        self.step = step


class Stuck(NeedError):
    """The house has no plan, as these ways show."""

    def __init__(self, ways):
        self.ways = ways


class Impossible(NeedError):
    """The house has no plan with so many people, as this way shows."""

    def __init__(self, way):
        self.way = way


class OutOf(NeedError):
    """A number is none from the least to the greatest."""

    def __init__(self, least, greatest):
        self.least = least
        self.greatest = greatest


class NoNumber(NeedError):
    """Nothing has this index."""

    def __init__(self, index):
        self.index = index


class Unfit(NeedError):
    """A value is no such plan."""

    def __init__(self):
        pass


class Never(NeedError):
    """No plan keeps the house however many days it has, as these ways show."""

    def __init__(self, ways):
        self.ways = ways


class TooLong(NeedError):
    """There would be more hours than this."""

    def __init__(self, most):
        self.most = most


class NoDays(NeedError):
    """There is no plan of so many days in one."""

    def __init__(self, days):
        self.days = days


class NoPace(NeedError):
    """The house cannot be kept at this pace."""

    def __init__(self, fraction):
        self.fraction = fraction


class NoText(NeedError):
    """A value is no text of this kind."""

    def __init__(self):
        pass


class NoDeed(NeedError):
    """A value is no deed."""

    def __init__(self):
        pass


class Full(NeedError):
    """The log holds no more deeds than this."""

    def __init__(self, limit):
        self.limit = limit


class Refused(NeedError):
    """Behind this deed there would be no clock, or no plan."""

    def __init__(self, deed):
        self.deed = deed


class Nothing(NeedError):
    """There is nothing to undo, or nothing to do again."""

    def __init__(self):
        pass


class NoEntry(NeedError):
    """The log has not so many deeds."""

    def __init__(self, many):
        self.many = many


class NoCommand(NeedError):
    """A value is no command."""

    def __init__(self):
        pass
