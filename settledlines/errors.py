"""The errors of the package, all of them directly below LineError."""


class LineError(ValueError):
    """What every error of the package is."""


class TooLong(LineError):
    """A line does not fit; length is the length of the line."""

    def __init__(self, length):
        self.length = length


class BadPlace(LineError):
    """A value is not a place."""

    def __init__(self, value):
        self.value = value


class BadWidth(LineError):
    """A value is not a width, or not one for the words at hand."""

    def __init__(self, value):
        self.value = value


class BadWord(LineError):
    """A value is not a word."""

    def __init__(self, value):
        self.value = value


class BadText(LineError):
    """A value is not a text."""

    def __init__(self, value):
        self.value = value


class BadSource(LineError):
    """A value is not a source; position tells where it stops being one."""

    def __init__(self, position):
        self.position = position


class BadLine(LineError):
    """A value is not a line that a desk understands."""

    def __init__(self, line):
        self.line = line


class Closed(LineError):
    """A stream is closed already."""


class NothingToUndo(LineError):
    """A paragraph has no edit that can be taken back."""


class NoStream(LineError):
    """A desk has no stream yet."""
