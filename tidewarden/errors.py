"""The errors of the package."""


class PortError(ValueError):
    """The base class of all errors of the package."""


class BadText(PortError):
    """A text that has none of the forms that are read."""


class NotAllowed(PortError):
    """Something that cannot happen."""


class BadLine(PortError):
    """A text of several lines that cannot be read beyond one of them."""

    def __init__(self, line):
        super().__init__(f"line {line} cannot be read")
        self.line = line


class BadCourse(PortError):
    """A course that cannot happen."""

    def __init__(self, tick):
        super().__init__(f"tick {tick} cannot happen")
        self.tick = tick


class Over(PortError):
    """A tick after the last one of the day."""


class NothingToUndo(PortError):
    """No deed that could be taken back."""


class NoRule(PortError):
    """A rule that the book does not have."""


class Full(PortError):
    """No room for one more."""
