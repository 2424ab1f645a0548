"""The errors of the package. Each stores the very objects that it was given."""


class AskError(ValueError):
    """The base class of all errors."""


class PaperError(AskError):
    """The family of errors about papers."""


class ArchiveError(AskError):
    """The family of errors about archives and worlds."""


class TextError(AskError):
    """The family of errors about texts."""


class InvalidPaper(PaperError):
    """A checker does not accept a paper."""

    def __init__(self, word, at):
        self.word = word
        self.at = at


class InvalidStep(ArchiveError):
    """A step cannot be done."""

    def __init__(self, step, reason):
        self.step = step
        self.reason = reason


class NotAnswerable(ArchiveError):
    """A row cannot be answered."""

    def __init__(self, row):
        self.row = row


class UnknownName(ArchiveError):
    """A name means nothing here."""

    def __init__(self, name):
        self.name = name


class NothingToUndo(ArchiveError):
    """There is no step that could be undone."""

    def __init__(self, steps):
        self.steps = steps


class InvalidText(TextError):
    """A text does not write what it should."""

    def __init__(self, line, field):
        self.line = line
        self.field = field


class InvalidCommand(TextError):
    """A desk does not know a command."""

    def __init__(self, text):
        self.text = text
