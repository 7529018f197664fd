"""The errors that the functions of the package raise."""


class DeskError(Exception):
    """The base of all errors of the package."""


class BadValue(DeskError):
    """An argument is not as told; at is its place, from 1 on."""

    def __init__(self, at):
        DeskError.__init__(self, f"argument {at}")
        self.at = at


class BadKind(DeskError):
    """A kind of a desk is not as told; at is its number."""

    def __init__(self, at):
        DeskError.__init__(self, f"kind {at}")
        self.at = at


class BadState(DeskError):
    """A state of a stream is not as told; at is its number."""

    def __init__(self, at):
        DeskError.__init__(self, f"state {at}")
        self.at = at


class TooMany(DeskError):
    """There are more scenes or sets than are looked at; word tells which."""

    def __init__(self, word):
        DeskError.__init__(self, f"too many {word}")
        self.word = word


class BadSyntax(DeskError):
    """A line of a text or log, or a command, has no form that is told; at is the line's number."""

    def __init__(self, at):
        DeskError.__init__(self, f"line {at}")
        self.at = at
