"""The errors of the package.

Each error is created with exactly the arguments that the document lists, and
has them as attributes.
"""


class RowError(ValueError):
    """The base class of all other errors of the package."""

    # Python's own errors take any arguments. So each class below says what it
    # takes, also where it takes nothing.


class BadBatch(RowError):
    """A batch is not a short list or tuple of actions."""

    def __init__(self):
        pass


class BadLosses(RowError):
    """A value is not losses for the row and the start."""

    def __init__(self):
        pass


class BadMarks(RowError):
    """A value is not marks that are sorted after the rounds."""

    def __init__(self):
        pass


class BadRow(RowError):
    """A value is not a row; error says why, as row_error returns it."""

    def __init__(self, error):
        self.error = error


class BadText(RowError):
    """A value is not a text; index is that of the first wrong part, or None."""

    def __init__(self, index):
        self.index = index


class Busy(RowError):
    """A runner is in the middle of a batch."""

    def __init__(self):
        pass


class NoIndex(RowError):
    """There is nothing with this index."""

    def __init__(self, index):
        self.index = index


class NoKey(RowError):
    """The value is not a key of the row."""

    def __init__(self, value):
        self.value = value


class NoPlace(RowError):
    """The value is not a place that is meant here."""

    def __init__(self, value):
        self.value = value


class NoRounds(RowError):
    """The value is not a number of rounds that can be done at once."""

    def __init__(self, value):
        self.value = value


class NoThreshold(RowError):
    """The value is not a threshold of the row."""

    def __init__(self, value):
        self.value = value


class NoVersion(RowError):
    """A runner does not have this version."""

    def __init__(self, version):
        self.version = version


class NothingToUndo(RowError):
    """No action of a runner is in effect."""

    def __init__(self):
        pass


class Rejected(RowError):
    """The action with this index in a batch raised an error."""

    def __init__(self, index):
        self.index = index


class TooLong(RowError):
    """A row has more places than the limit."""

    def __init__(self, limit):
        self.limit = limit


class TooMany(RowError):
    """There are more results, or runs, than the limit."""

    def __init__(self, limit):
        self.limit = limit


class TooManyActions(RowError):
    """A runner already has as many actions in effect as it may have."""

    def __init__(self):
        pass


class TooSlow(RowError):
    """A row needs more rounds than were given; needed is their number."""

    def __init__(self, needed):
        self.needed = needed
