"""The errors that the document names."""


class NoPlace(LookupError):
    """There is no such place."""

    def __init__(self, place):
        LookupError.__init__(self, place)
        self.place = place


class NothingDone(LookupError):
    """There is no deed that could be undone."""


class BadLine(ValueError):
    """This line of a text is not as described."""

    def __init__(self, line):
        ValueError.__init__(self, line)
        self.line = line


class CanNot(ValueError):
    """There is nothing such as is asked for."""


class TooMuch(ValueError):
    """This is more than is gone through."""


class Unfit(ValueError):
    """An argument does not fit the others."""
