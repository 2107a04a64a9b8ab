"""The errors that the package raises."""


class NoGuest(LookupError):
    """A number that is that of no GUEST of the WEB."""

    def __init__(self, guest):
        self.guest = guest


class NoPlace(LookupError):
    """A number that is no PLACE of the WEB."""

    def __init__(self, place):
        self.place = place


class NothingDone(LookupError):
    """There is nothing that could be taken back, or done once more."""


class BadText(ValueError):
    """A text with a fault, by the number of its line."""

    def __init__(self, line):
        self.line = line


class CanNot(ValueError):
    """What is asked for does not exist."""


class TooMany(ValueError):
    """There are too many for this to be counted or searched."""


class Unfit(ValueError):
    """An argument that is no such value as it must be."""
