"""The errors of the package."""


class PartError(ValueError):
    """What the errors of the package that are no lookups have in common."""


class InvalidWays(PartError):
    """A rule of a store is none."""

    def __init__(self, word):
        self.word = word


class InvalidTable(PartError):
    """Something that a table is made of is wrong."""

    def __init__(self, word):
        self.word = word


class InvalidTest(PartError):
    """Something that a test is made of is wrong."""

    def __init__(self, word):
        self.word = word


class InvalidStep(PartError):
    """Something that a step is made of is wrong."""

    def __init__(self, word):
        self.word = word


class InvalidQuestion(PartError):
    """A step of a question can't be done at its place."""

    def __init__(self, at, word):
        self.at = at
        self.word = word


class InvalidText(PartError):
    """A line of a text that is read is no such line."""

    def __init__(self, at):
        self.at = at


class InvalidCommand(PartError):
    """A command is none."""


class Mismatch(PartError):
    """Two things do not fit together."""


class NoRow(IndexError):
    """A table has no row of this number."""

    def __init__(self, at):
        self.at = at


class NoStep(IndexError):
    """A question has no step of this number."""

    def __init__(self, at):
        self.at = at


class NoColumn(KeyError):
    """There is no column of this name."""

    def __init__(self, name):
        self.name = name
