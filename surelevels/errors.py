"""The errors of the package: one class for each kind of failure."""


class LevelError(ValueError):
    """What all errors of the package have in common."""

    def __init__(self):
        ValueError.__init__(self)


class BadPart(LevelError):
    """A part of a fraction, or an operand, that is none."""

    def __init__(self, part):
        self.part = part


class BadText(LevelError):
    """A line of a text, numbered from 1, that cannot stand there."""

    def __init__(self, line):
        self.line = line


class BadFrame(LevelError):
    """Four things that are no frame of a book."""


class BadLevel(LevelError):
    """An item that is no level of a book."""

    def __init__(self, index):
        self.index = index


class BadFact(LevelError):
    """An item that is no fact of a book."""

    def __init__(self, index):
        self.index = index


class BadPlace(LevelError):
    """What is not the index of a fact of a book."""

    def __init__(self, index):
        self.index = index


class BadPoint(LevelError):
    """An item that is no point of a line behind the ones ahead of it."""

    def __init__(self, index):
        self.index = index


class BadMoment(LevelError):
    """What is no moment that can be asked about."""

    def __init__(self, moment):
        self.moment = moment


class BadLine(LevelError):
    """What is no line with the same first and the same last moment."""

    def __init__(self, line):
        self.line = line


class Unfit(LevelError):
    """No history fits the book."""


class HasHistory(LevelError):
    """A history fits the book, so it has no paper."""


class UnknownLevel(LevelError):
    """What is not the name of a level of the book."""

    def __init__(self, name):
        self.name = name


class BadHeight(LevelError):
    """What is no height that can be asked about."""

    def __init__(self, height):
        self.height = height
