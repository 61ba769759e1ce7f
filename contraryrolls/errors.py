"""The errors of the package, also those that later parts raise."""


class RollError(ValueError):
    """What all errors of the package derive from; it keeps what it is created with."""

    def __init__(self, value):
        self.value = value


class BadWeb(RollError):
    """A text is not that of a web: the number of the line."""


class BadNumber(RollError):
    """A value is no integer as it is asked for."""


class BadMarks(RollError):
    """A value is not what the marks of a web can be."""


class BadArrows(RollError):
    """A value is not what the arrows of a web can be."""


class BadNames(RollError):
    """A value is no tuple of names as it is asked for."""


class BadOrder(RollError):
    """A value is no order of the places of a web."""


class BadReader(RollError):
    """A text is not that of a reader: the number of the line."""


class BadRoll(RollError):
    """A value is no roll."""


class TooMany(RollError):
    """More than so many are asked for: how many may be."""


class BadPairs(RollError):
    """A value is no tuple of pairs of names."""


class TooGreat(RollError):
    """Something is too great: what, or how great it may be or is."""


class Lets(RollError):
    """A reader lets a web: a roll by which it does."""


class NoWay(RollError):
    """There is no way."""


class HasWay(RollError):
    """There is a way: the places along it."""


class BadSaying(RollError):
    """A text is not that of a saying: the number of the token."""


class NotClosed(RollError):
    """A saying has free names: these."""


class BadPlaces(RollError):
    """A value is no tuple of places for the free names of a saying."""


class NotSo(RollError):
    """Something is not so: of what."""


class BadMaking(RollError):
    """A text is not that of a making: the number of the line."""


class NotLed(RollError):
    """A saying cannot be led back: the word of the form."""


class BadName(RollError):
    """A value is no name as it is asked for."""


class BadWord(RollError):
    """A value is none of the words that are asked for."""


class NotLone(RollError):
    """A web is not lone: what is told of it."""


class NoThing(RollError):
    """A value is not the name of a thing of the desk."""


class WrongKind(RollError):
    """A thing of the desk is not of the kind that is asked for: its name."""


class Held(RollError):
    """A name is held by a thing of the desk."""


class BadDeed(RollError):
    """A value is no deed."""


class BadKind(RollError):
    """A value is no kind of things."""


class NothingToUndo(RollError):
    """No deed stands."""


class NothingToRedo(RollError):
    """No deed is undone: how many stand."""


class NoNote(RollError):
    """A value is no note of the desk."""


class BadDesk(RollError):
    """A text is not that of a desk: the number of the line."""
