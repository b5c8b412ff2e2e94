"""The errors of the package; what each was made of stands in its attributes."""


class RiseError(ValueError):
    """Something that was passed is not valid, or does not go with the rest."""


class MissingError(LookupError):
    """Something that was asked for is not there."""


class LimitError(ArithmeticError):
    """Something goes beyond a limit of the package."""


class InvalidInteger(RiseError):
    """A value that is no INTEGER, or none of those that may stand there."""

    def __init__(self, value):
        self.value = value


class InvalidName(RiseError):
    """A value that is no NAME."""

    def __init__(self, value):
        self.value = value


class InvalidCounters(RiseError):
    """A value that is no list of one to five elements."""

    def __init__(self, value):
        self.value = value


class InvalidGroups(RiseError):
    """A value in the place of the groups that is no list."""

    def __init__(self, value):
        self.value = value


class InvalidGroup(RiseError):
    """An element of the groups that is no group of the counters."""

    def __init__(self, position):
        self.position = position


class SameGroup(RiseError):
    """A group with the counters of an earlier group."""

    def __init__(self, name, other):
        self.name = name
        self.other = other


class CrossingGroups(RiseError):
    """A group that crosses an earlier group."""

    def __init__(self, name, other):
        self.name = name
        self.other = other


class TakenName(RiseError):
    """A name that is used twice."""

    def __init__(self, name):
        self.name = name


class InvalidNames(RiseError):
    """A value in the place of asked names that is no list."""

    def __init__(self, value):
        self.value = value


class InvalidLooks(RiseError):
    """A value that is no list of looks."""

    def __init__(self, value):
        self.value = value


class InvalidLook(RiseError):
    """The number of no look, or what is no list of readings."""

    def __init__(self, value):
        self.value = value


class InvalidGap(RiseError):
    """A value that is the number of no gap."""

    def __init__(self, value):
        self.value = value


class OtherBook(RiseError):
    """Two things are of different books."""


class OtherLength(RiseError):
    """A row with another number of gaps."""

    def __init__(self, many):
        self.many = many


class NoJoin(RiseError):
    """A row that does not begin where the other one ends."""


class AboveCeiling(RiseError):
    """A reading above the ceiling of its draft."""

    def __init__(self, name, look):
        self.name = name
        self.look = look


class EmptyDraft(RiseError):
    """A draft without looks."""


class InvalidText(RiseError):
    """A text that is not written as it must be, and its wrong line."""

    def __init__(self, line):
        self.line = line


class InvalidLetter(RiseError):
    """A value that is no letter."""

    def __init__(self, value):
        self.value = value


class ImpossibleLetter(RiseError):
    """A letter that no row has at any gap."""

    def __init__(self, position):
        self.position = position


class InvalidQuestion(RiseError):
    """A value that is no question, or not of the kind that is wanted."""

    def __init__(self, value):
        self.value = value


class TooShort(RiseError):
    """A row with fewer gaps than are needed."""

    def __init__(self, needed):
        self.needed = needed


class InvalidWalk(RiseError):
    """A value that is no walk, or no journey."""

    def __init__(self, value):
        self.value = value


class InvalidFact(RiseError):
    """A value that is no fact, or the text of none."""

    def __init__(self, value):
        self.value = value


class InvalidState(RiseError):
    """A value that is no state."""

    def __init__(self, value):
        self.value = value


class BelowZero(RiseError):
    """An expression that is below zero, and what shows it."""

    def __init__(self, found):
        self.found = found


class ZeroBound(RiseError):
    """A bound that is zero for all rows."""


class InvalidSeries(RiseError):
    """Series that a store cannot have."""

    def __init__(self, name):
        self.name = name


class Entangled(RiseError):
    """A name whose falls depend on those of its parts."""

    def __init__(self, name):
        self.name = name


class InvalidClaim(RiseError):
    """A value that is no claim."""

    def __init__(self, value):
        self.value = value


class InvalidLine(RiseError):
    """A value that is no line for a desk."""

    def __init__(self, value):
        self.value = value


class InvalidThing(RiseError):
    """A value that cannot be put on a desk."""

    def __init__(self, value):
        self.value = value


class CommandFailed(RiseError):
    """One of several lines that raised an error."""

    def __init__(self, position):
        self.position = position


class UnknownName(MissingError):
    """A value that is no name there."""

    def __init__(self, value):
        self.value = value


class NothingToUndo(MissingError):
    """No change is left that can be taken back."""


class TooMany(LimitError):
    """More of something than the limit."""

    def __init__(self, what, limit):
        self.what = what
        self.limit = limit
