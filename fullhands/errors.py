"""The errors of the program.

The arguments of an error are kept by Python as they were passed in, so an error shows itself as it was built.
"""


class FullhandsError(ValueError):
    """The base class of all errors that the program raises."""


class BadTable(FullhandsError):
    """A table breaks a rule of its data."""

    def __init__(self, place, index):
        self.place = place
        self.index = index


class BadText(FullhandsError):
    """A line of a text, counted from 1, does not fit."""

    def __init__(self, line):
        self.line = line


class BadStanding(FullhandsError):
    """A standing breaks a rule of its table."""

    def __init__(self, place, index):
        self.place = place
        self.index = index


class CannotMove(FullhandsError):
    """A move, at this index of its run, cannot be made."""

    def __init__(self, index, reason):
        self.index = index
        self.reason = reason


class NoSuch(FullhandsError):
    """Something that is asked for by its number is not there."""

    def __init__(self, what):
        self.what = what


class WrongGround(FullhandsError):
    """A table is not of the form that is needed."""

    def __init__(self, needed):
        self.needed = needed


class TooGreat(FullhandsError):
    """Something is greater than the program goes."""

    def __init__(self, what):
        self.what = what


class BadVector(FullhandsError):
    """A row of numbers does not have the entries that are needed."""

    def __init__(self, index):
        self.index = index


class NotLocal(FullhandsError):
    """A kind does not lie within one branch."""

    def __init__(self, kind):
        self.kind = kind


class BadProgram(FullhandsError):
    """A word, counted from 0, of a line, counted from 1, is wrong."""

    def __init__(self, line, word):
        self.line = line
        self.word = word


class InUse(FullhandsError):
    """An edit would take away what held dishes need."""

    def __init__(self, what):
        self.what = what


class AttemptFailed(FullhandsError):
    """A line of several, at this index, is refused."""

    def __init__(self, index):
        self.index = index


class BadLot(FullhandsError):
    """A row of people is not a lot of the table."""


class BadDealing(FullhandsError):
    """Rows of numbers are not a dealing of their lot."""


class NotCore(FullhandsError):
    """A dealing is not a core."""


class BadLoads(FullhandsError):
    """Entries are not those of loads."""


class Impossible(FullhandsError):
    """No run would fit what is told."""


class BadLine(FullhandsError):
    """A line told to a desk has none of the forms."""


class NothingToUndo(FullhandsError):
    """No line is left that could be taken back."""


class NothingToRedo(FullhandsError):
    """No line is left that could be done again."""
