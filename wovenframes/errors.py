"""All errors of the program, each a direct subclass of WovenError."""


class WovenError(ValueError):
    """The base class of all errors of the program."""


class BadBoard(WovenError):
    """A value that is no board."""


class BadCells(WovenError):
    """A value that is no cells of a board."""


class BadRow(WovenError):
    """A value that is no row of the board."""


class BadColumn(WovenError):
    """A value that is no column of the board."""


class BadSign(WovenError):
    """A value that is no sign of a cell."""


class BadThread(WovenError):
    """A value that is no thread of the board."""


class BadLot(WovenError):
    """A value that is no lot of the board's threads."""


class NotClosed(WovenError):
    """A lot that is not closed."""


class NotLifting(WovenError):
    """A lot that does not lift off."""


class BadLoad(WovenError):
    """A value that is no load."""


class BadStrengths(WovenError):
    """A value that is no strengths."""


class BadPrices(WovenError):
    """A value that is no prices."""


class TooMany(WovenError):
    """There are more things than the most that are told."""

    def __init__(self, most):
        super().__init__(f"more than {most}")
        self.most = most


class BadBreak(WovenError):
    """A value that is no break."""


class BadLog(WovenError):
    """A value that is no log, with the index of the first thing in it that is wrong."""

    def __init__(self, index):
        super().__init__(f"index {index}")
        self.index = index


class BadMost(WovenError):
    """A value that is no greatest number of broken cells."""


class BadMany(WovenError):
    """A value that is no greatest depth of a plan."""


class NoBreak(WovenError):
    """No break fits the log."""


class InvalidText(WovenError):
    """A text that cannot be read, with the line and the word, both counted from 1."""

    def __init__(self, line, word):
        super().__init__(f"line {line}, word {word}")
        self.line = line
        self.word = word


class BadDeeds(WovenError):
    """A value that is no deeds, with the index of the first thing in it that is wrong."""

    def __init__(self, index):
        super().__init__(f"index {index}")
        self.index = index


class BadNumber(WovenError):
    """A value that is no number for a strength, or for a shift of a load."""


class TooHeavy(WovenError):
    """The load of a thread would be too great, or too far below nought."""


class BadAngle(WovenError):
    """A value that is no angle."""


class BadMotion(WovenError):
    """A value that is no motion."""


class BadHeights(WovenError):
    """A value that is no heights, with the index of the first thing in it that is wrong."""

    def __init__(self, index):
        super().__init__(f"index {index}")
        self.index = index


class TooHigh(WovenError):
    """The integer of a thread would be too great."""


class BadPlace(WovenError):
    """A value that is no number of a lift order."""


class BadLiftOrder(WovenError):
    """A value that is no lift order."""


class BadLines(WovenError):
    """A value that is no number of rows, or of columns."""


class BadLots(WovenError):
    """A value that is no lots, with the index of the first thing in it that is wrong."""

    def __init__(self, index):
        super().__init__(f"index {index}")
        self.index = index


class BadPicture(WovenError):
    """A value that is no picture."""


class BadColours(WovenError):
    """A value that is no colours."""


class NotShown(WovenError):
    """There are no weaves of the picture."""


class BadShared(WovenError):
    """A value that is no shared threads."""


class BadJoin(WovenError):
    """Two boards that cannot be joined so."""


class EmptyLot(WovenError):
    """The empty lot, where a lot with threads is asked."""


class BadThreads(WovenError):
    """A value that is no threads, or no order of them."""


class BadState(WovenError):
    """A value that is no state of the work."""


class BadBuilder(WovenError):
    """A value that is no builder."""


class BadDeed(WovenError):
    """A value that is no deed."""


class BadOrder(WovenError):
    """A value that is no order, with the index of the first thing in it that is wrong."""

    def __init__(self, index):
        super().__init__(f"index {index}")
        self.index = index


class BadBuilders(WovenError):
    """A value that is no builders, with the builder, and the place among the deeds, that is wrong."""

    def __init__(self, builder, place):
        super().__init__(f"builder {builder}, place {place}")
        self.builder = builder
        self.place = place
