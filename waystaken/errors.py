"""The errors that the package raises."""


class WayError(ValueError):
    """What all errors of the package have in common."""


class BadText(WayError):
    """A text that cannot be read: its line, from 1, and the place there."""

    def __init__(self, line, place):
        self.line = line
        self.place = place


class BadName(WayError):
    """A name that stands for nothing, or for something already."""

    def __init__(self, name):
        self.name = name


class TooMany(WayError):
    """More of something than is dealt with, "parts" for example."""

    def __init__(self, what):
        self.what = what


class NotKept(WayError):
    """A guard that does not hold."""

    def __init__(self, guard):
        self.guard = guard


class NothingLeft(WayError):
    """Nothing is left to be undone, redone or freed."""


class Busy(WayError):
    """Something that has to wait for the end of a trial."""
