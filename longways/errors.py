"""The refusals: each has a class of its own, all straight under DanceError."""


class DanceError(ValueError):
    """Any refusal."""


class BadSpots(DanceError):
    """A floor of fewer than 2 or of more than 6 spots."""


class BadWay(DanceError):
    """A list that hasn't each place of the floor just once."""


class BadCall(DanceError):
    """A call with an unknown word, another count of numbers, or numbers out of their bounds."""


class BadBar(DanceError):
    """A bar of no calls or of more than 4."""


class BadFigure(DanceError):
    """A figure of more than 16 bars."""


class BadNumber(DanceError):
    """A number out of the bounds that a question or a deed sets for it."""


class TooMany(DanceError):
    """More allowed calls, or another count of couples, than can be dealt with."""


class Same(DanceError):
    """Two couples or two spots that are one."""


class BadName(DanceError):
    """A name that isn't 1 to 8 small letters."""


class Known(DanceError):
    """A name that a figure or a set bears already."""


class BadKind(DanceError):
    """A kind of set that there isn't."""


class Few(DanceError):
    """Too few couples for a set of that kind."""


class Full(DanceError):
    """More figures, sets or couples than there is room for."""


class Taken(DanceError):
    """A couple that stands in a set already."""


class NoFigure(DanceError):
    """No figure of that name is in the book."""


class NoSet(DanceError):
    """No set of that name is in the hall."""


class NoCouple(DanceError):
    """No couple of that name is in the set."""


class WrongSize(DanceError):
    """A figure on another count of spots than is asked for."""


class Fixed(DanceError):
    """A whole set, where only one by twos will do."""


class Last(DanceError):
    """The only couple of a set, which can't step out."""


class NoEntry(DanceError):
    """A place that the log hasn't."""


class NotDanced(DanceError):
    """An entry of the log that is no dance."""


class NothingLeft(DanceError):
    """Nothing is left to take back or to do again."""


class Clash(DanceError):
    """Two calls of a bar take one place; the field is the least such place."""

    def __init__(self, place):
        self.place = place


class NotOn(DanceError):
    """A figure that doesn't lead on; the field is the word that bars it."""

    def __init__(self, word):
        self.word = word


class BadText(DanceError):
    """A text that can't be read; the field is the number of its row."""

    def __init__(self, at):
        self.at = at
