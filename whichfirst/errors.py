"""All errors of the package: a base class, four families, and each error with its fields.

No error hands its fields to Python's own constructor: they may be any values,
and are kept as they are.
"""


class WhichError(ValueError):
    """The base class of all errors of the package."""


class PaperError(WhichError):
    """Errors of what checkers are given."""


class SiteError(WhichError):
    """Errors of arguments, and of sites that cannot be kept."""


class BookError(WhichError):
    """Errors of books."""


class TextError(WhichError):
    """Errors of what is read."""


class InvalidPaper(PaperError):
    """A checker does not accept a value: for which reason, and where in it."""

    def __init__(self, word, at):
        self.word = word
        self.at = at


class NotUsable(SiteError):
    """An argument is not as stated: which one, and where in it (-1 for all of it)."""

    def __init__(self, word, at):
        self.word = word
        self.at = at


class NeverKept(SiteError):
    """No visits keep the site: the task that is missed, and its late day."""

    def __init__(self, task, day):
        self.task = task
        self.day = day


class InvalidEvent(BookError):
    """An event is not possible in a book, and the reason."""

    def __init__(self, event, reason):
        self.event = event
        self.reason = reason


class NothingToUndo(BookError):
    """A book has no event to take back."""

    def __init__(self, steps):
        self.steps = steps


class InvalidText(TextError):
    """A text cannot be read: the line and the word that cannot stand."""

    def __init__(self, line, field):
        self.line = line
        self.field = field


class InvalidRow(TextError):
    """A desk does not understand a row."""

    def __init__(self, row):
        self.row = row
