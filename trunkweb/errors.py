"""The errors of the program."""


class WebError(ValueError):
    """The base class of all errors of the program; `at` tells where or what the fault is."""

    def __init__(self, at):
        self.at = at


class OutOfRange(WebError):
    """A size or a count is out of range."""


class BadLine(WebError):
    """A line of a text is not written as it must be."""


class BadVertex(WebError):
    """There is no such vertex, or it must not stand there."""


class BadPrice(WebError):
    """A price is out of range."""


class BadEdge(WebError):
    """There is no such edge, or it must not stand there."""


class TooMany(WebError):
    """There are too many of something."""


class NoPath(WebError):
    """There is no path."""


class SameVertex(WebError):
    """Two vertices that must be different are the same."""


class TooMuch(WebError):
    """No flow has as great a value."""


class BadTerminal(WebError):
    """A terminal is no vertex, or must not stand there."""


class Joined(WebError):
    """An edge joins two vertices that must not be joined."""


class BadRow(WebError):
    """The reason of a row does not hold."""


class BadPair(WebError):
    """A pair is not one of two different vertices."""


class BadPrize(WebError):
    """A prize is out of range, or there is not one for each vertex."""


class ZeroDivisor(WebError):
    """Something is divided by 0."""


class BadRelation(WebError):
    """A relation is none of the three."""


class WrongSize(WebError):
    """A list has not the length that it must have."""


class BadFixing(WebError):
    """An item of a fixing is not 0, 1 or None."""


class BadSet(WebError):
    """A set is not written as it must be."""


class NothingToUndo(WebError):
    """There is no change that could be taken back."""
