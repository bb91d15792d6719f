"""All errors of the package.

The messages are fixed texts: a field may be a number that is too long to be
written out, and Python refuses to do so.
"""


class NightsError(ValueError):
    """The base class of all errors of the package."""


class NoNight(NightsError):
    def __init__(self, night):
        super().__init__("there is no such night")
        self.night = night


class NoPerson(NightsError):
    def __init__(self, person):
        super().__init__("there is no such person")
        self.person = person


class NamedTwice(NightsError):
    def __init__(self, person):
        super().__init__("a person is named twice")
        self.person = person


class BadNumber(NightsError):
    def __init__(self, place, number):
        super().__init__("a number is out of bounds")
        self.place = place
        self.number = number


class TooLong(NightsError):
    def __init__(self, count):
        super().__init__("there are too many entries")
        self.count = count


class WrongLength(NightsError):
    def __init__(self, found, wanted):
        super().__init__("the length is wrong")
        self.found = found
        self.wanted = wanted


class BadRest(NightsError):
    def __init__(self, rest):
        super().__init__("the rest is out of bounds")
        self.rest = rest


class BadComing(NightsError):
    def __init__(self, person, coming):
        super().__init__("the coming of a person is out of bounds")
        self.person = person
        self.coming = coming


class BadPlan(NightsError):
    def __init__(self, fault):
        super().__init__("the plan has a fault")
        self.fault = fault


class BadCover(NightsError):
    def __init__(self, fault):
        super().__init__("the cover has a fault")
        self.fault = fault


class NotPossible(NightsError):
    def __init__(self, reason, cover):
        super().__init__("the numbers cannot be true")
        self.reason = reason
        self.cover = cover


class NotWatched(NightsError):
    def __init__(self, end):
        super().__init__("the house cannot be watched")
        self.end = end


class NoWorld(NightsError):
    def __init__(self, reason, person, cover):
        super().__init__("there is no world")
        self.reason = reason
        self.person = person
        self.cover = cover


class NotFalling(NightsError):
    def __init__(self, place):
        super().__init__("the row is not falling")
        self.place = place


class UnlikeSums(NightsError):
    def __init__(self, one, other):
        super().__init__("the sums differ")
        self.one = one
        self.other = other


class EmptyWeek(NightsError):
    def __init__(self):
        super().__init__("the week has no nights")


class ZeroBottom(NightsError):
    def __init__(self):
        super().__init__("the bottom of a fraction is zero")


class BadLine(NightsError):
    def __init__(self, line, word, why):
        super().__init__("a line is wrong")
        self.line = line
        self.word = word
        self.why = why


class DraftError(NightsError):
    """A change that a draft refuses."""


class TooEarly(DraftError):
    def __init__(self, night, person):
        super().__init__("the person has not come by that night")
        self.night = night
        self.person = person


class TooSoon(DraftError):
    def __init__(self, night, person, other):
        super().__init__("the person is not rested on that night")
        self.night = night
        self.person = person
        self.other = other


class TooMany(DraftError):
    def __init__(self, night, count):
        super().__init__("the night wants fewer people")
        self.night = night
        self.count = count


class NotThere(DraftError):
    def __init__(self, night, person):
        super().__init__("the person does not watch on that night")
        self.night = night
        self.person = person


class DeskError(NightsError):
    """A deed that a desk refuses."""


class DeskOver(DeskError):
    def __init__(self, last):
        super().__init__("all nights are over")
        self.last = last


class NoneLeft(DeskError):
    def __init__(self, person):
        super().__init__("the person has no night left")
        self.person = person


class WrongCount(DeskError):
    def __init__(self, found, wanted):
        super().__init__("the night wants another number of people")
        self.found = found
        self.wanted = wanted


class NotRight(DeskError):
    def __init__(self, level):
        super().__init__("the set is not right tonight")
        self.level = level


class PastNight(DeskError):
    def __init__(self, night):
        super().__init__("the night is over")
        self.night = night


class TooFew(DeskError):
    def __init__(self, person, least):
        super().__init__("the person has kept more nights")
        self.person = person
        self.least = least


class BadMode(DeskError):
    def __init__(self, word):
        super().__init__("there is no such mode")
        self.word = word


class HistoryError(NightsError):
    """A step through the deeds that is not there."""


class NothingToUndo(HistoryError):
    def __init__(self):
        super().__init__("there is nothing to undo")


class NothingToRedo(HistoryError):
    def __init__(self):
        super().__init__("there is nothing to redo")


class BookError(NightsError):
    """A deed or a question that a book refuses."""


class BadName(BookError):
    def __init__(self, name):
        super().__init__("this is no name")
        self.name = name


class UnknownName(BookError):
    def __init__(self, name):
        super().__init__("the name is not known")
        self.name = name


class KnownName(BookError):
    def __init__(self, name):
        super().__init__("the name is known already")
        self.name = name


class NoRecord(BookError):
    def __init__(self, number):
        super().__init__("there is no such record")
        self.number = number
