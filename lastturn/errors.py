"""The errors of the program. Each keeps the fields that it is created from as attributes."""


class InvalidName(ValueError):
    """The value is not a name."""

    def __init__(self, name):
        self.name = name


class InvalidGifts(ValueError):
    """The value is not a sequence of different names."""


class InvalidRanking(ValueError):
    """The guest has no valid ranking; the guest is None if the rankings as a whole are of the wrong form."""

    def __init__(self, guest):
        self.guest = guest


class InvalidRow(ValueError):
    """The value is not a row, or not an order, of the guests."""


class InvalidHolding(ValueError):
    """The guest cannot hold this value; the guest is None if the holding as a whole is of the wrong form."""

    def __init__(self, guest):
        self.guest = guest


class NotEfficient(ValueError):
    """The holding has an improvement, so it has no row."""


class NotSameHolding(ValueError):
    """The two rows result in different holdings."""


class NotFull(ValueError):
    """There are not as many gifts as guests."""


class InvalidState(ValueError):
    """The value is not a tuple with each gift exactly once."""


class InvalidWord(ValueError):
    """The value is not a word of the guests."""


class InvalidLog(ValueError):
    """The log is not valid from the event with this number on; -1 if it is not a sequence."""

    def __init__(self, event):
        self.event = event


class Contradictory(ValueError):
    """The comparisons of the guest are contradictory."""

    def __init__(self, guest):
        self.guest = guest


class InvalidEvent(ValueError):
    """The event with this number does not have the form of an event; -1 if the events are not a sequence."""

    def __init__(self, number):
        self.number = number


class InvalidText(ValueError):
    """No text of the right form has this line after the lines before it."""

    def __init__(self, line):
        self.line = line


class InvalidCommand(ValueError):
    """The value is not a command."""

    def __init__(self, command):
        self.command = command


class UnknownGuest(KeyError):
    """The value is not one of the guests."""

    def __init__(self, guest):
        self.guest = guest


class DuplicateGuest(KeyError):
    """The guest is present already."""

    def __init__(self, guest):
        self.guest = guest


class UnknownGift(KeyError):
    """The value is not one of the gifts."""

    def __init__(self, gift):
        self.gift = gift


class DuplicateGift(KeyError):
    """There is such a gift already."""

    def __init__(self, gift):
        self.gift = gift


class OutOfRange(IndexError):
    """The value is not an integer of the allowed range."""

    def __init__(self, number):
        self.number = number


class TooLarge(ArithmeticError):
    """There is more of something than the limit allows."""

    def __init__(self, limit):
        self.limit = limit
