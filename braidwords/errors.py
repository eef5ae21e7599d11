"""The errors that the program raises.

The three base classes stand for what a caller may want to catch at once.
"""


class NotRight(ValueError):
    """An argument is not as it must be."""


class InvalidText(NotRight):
    """No text of mirrors."""

    def __init__(self, given):
        self.given = given


class InvalidNumber(NotRight):
    """No integer, or one that is too small or too great."""

    def __init__(self, given):
        self.given = given


class InvalidName(NotRight):
    """No name."""

    def __init__(self, given):
        self.given = given


class InvalidIndex(NotRight):
    """No index of what is there."""

    def __init__(self, given):
        self.given = given


class InvalidWord(NotRight):
    """No word for the mirrors."""

    def __init__(self, given):
        self.given = given


class InvalidLetter(NotRight):
    """No letter of the mirrors."""

    def __init__(self, given):
        self.given = given


class InvalidLot(NotRight):
    """No lot of letters of the mirrors."""

    def __init__(self, given):
        self.given = given


class InvalidClaim(NotRight):
    """No claim of a desk."""

    def __init__(self, given):
        self.given = given


class InvalidCommand(NotRight):
    """No command of a console."""

    def __init__(self, given):
        self.given = given


class NotMirrors(NotRight):
    """No mirrors."""

    def __init__(self, given):
        self.given = given


class InvalidAngles(NotRight):
    """No tuple of angles; `index` is None or that of the first wrong one."""

    def __init__(self, index):
        self.index = index


class InvalidRow(NotRight):
    """No row of numbers; `index` is None or that of the first wrong one."""

    def __init__(self, index):
        self.index = index


class InvalidRows(NotRight):
    """No tuple of rows; `index` is None or that of the first wrong one."""

    def __init__(self, index):
        self.index = index


class InvalidUnknown(NotRight):
    """No tuple of unknown pairs; `index` is None or that of the first wrong one."""

    def __init__(self, index):
        self.index = index


class InvalidTold(NotRight):
    """No tuple of what was told; `index` is None or that of the first wrong one."""

    def __init__(self, index):
        self.index = index


class NotKnown(LookupError):
    """What is asked for is not there, or is still needed."""


class UnknownName(NotKnown):
    """No such name on the desk."""

    def __init__(self, given):
        self.given = given


class InUse(NotKnown):
    """A claim names it; `index` is that of the first one."""

    def __init__(self, index):
        self.index = index


class NothingToUndo(NotKnown):
    """All changes are taken back already."""

    def __init__(self):
        super().__init__()


class NotPossible(ArithmeticError):
    """The arguments are right, but there is no such result."""


class NotAlike(NotPossible):
    """The words are not alike; they send the single row of `letter` unlike."""

    def __init__(self, letter):
        self.letter = letter


class NotShortest(NotPossible):
    """The word is not shortest; it is alike without the letters at `indexes`."""

    def __init__(self, indexes):
        self.indexes = indexes


class NoMove(NotPossible):
    """There is no such move."""

    def __init__(self):
        super().__init__()


class TooMany(NotPossible):
    """There are more than `most`."""

    def __init__(self, most):
        self.most = most


class Broken(NotPossible):
    """The claim at `index` does not hold; `shown` tells why."""

    def __init__(self, index, shown):
        self.index = index
        self.shown = shown
