"""The errors that the functions of this package raise."""


class NoPlace(LookupError):
    """There is nothing at this place, or under this ticket."""

    def __init__(self, place):
        self.place = place


class NothingDone(LookupError):
    """There is no deed to take back."""


class BadLine(ValueError):
    """This line, counted from 1, is not as described."""

    def __init__(self, line):
        self.line = line


class CanNot(ValueError):
    """What is asked for cannot be had."""


class TooMuch(ValueError):
    """What is passed is too great to be worked on."""


class Unfit(ValueError):
    """What is passed does not fit."""
