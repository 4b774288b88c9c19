"""The errors of the package.

Their messages do not show what they hold: that may be any value, also an
integer with more digits than Python writes out.
"""


class KeeperError(ValueError):
    """What all errors of this package are."""


class BadBatch(KeeperError):
    """Deeds that are no tuple of deeds."""


class BadRow(KeeperError):
    """A value that is not the row that is asked for."""

    def __init__(self, given):
        super().__init__("not such a row")
        self.given = given


class BadStock(KeeperError):
    """A value that is no stock, with what is wrong with it."""

    def __init__(self, error):
        super().__init__("not a stock")
        self.error = error


class BadText(KeeperError):
    """A value that is not the text that is asked for, with the place of the fault."""

    def __init__(self, place):
        super().__init__("not such a text")
        self.place = place


class Busy(KeeperError):
    """A desk is asked for something while it calls others."""


class NoAnswers(KeeperError):
    """A case has no answer, with a refutation of it."""

    def __init__(self, reason):
        super().__init__("there is no answer")
        self.reason = reason


class NoNumber(KeeperError):
    """A value that is none of the numbers that are let."""

    def __init__(self, number):
        super().__init__("no such number")
        self.number = number


class NoRelation(KeeperError):
    """A value that is no index of a relation of the stock."""

    def __init__(self, given):
        super().__init__("no such relation")
        self.given = given


class NotOne(KeeperError):
    """A value that is none of those that are let."""

    def __init__(self, given):
        super().__init__("not one of these")
        self.given = given


class NothingToUndo(KeeperError):
    """There is nothing that could be taken back."""


class NoUnknown(KeeperError):
    """A value that is none of the unknowns."""

    def __init__(self, given):
        super().__init__("no such unknown")
        self.given = given


class NoVersion(KeeperError):
    """A value that is no version of a desk."""

    def __init__(self, given):
        super().__init__("no such version")
        self.given = given


class Rejected(KeeperError):
    """A deed of a batch could not be done, with its index."""

    def __init__(self, index):
        super().__init__("a deed could not be done")
        self.index = index


class TooHard(KeeperError):
    """A case has too many unknowns for what keeps it, with their number."""

    def __init__(self, size):
        super().__init__("too many unknowns")
        self.size = size


class TooManyEdits(KeeperError):
    """As many edits stand as a desk remembers."""


class Unfit(KeeperError):
    """Things that do not go together, or that are too great together."""
