"""A desk: a book that is told and asked by rows of text."""

from whichfirst.books import Book, day_text
from whichfirst.errors import InvalidRow, InvalidText
from whichfirst.eventreadings import read_event, read_log
from whichfirst.eventtexts import event_line
from whichfirst.linereading import name_from, number_from
from whichfirst.sitetexts import site_lines


def spaced(things):
    """Several things with single spaces between, - for nothing."""
    return " ".join([str(thing) for thing in things]) or "-"


def slashed(lines):
    """Lines joined to one, - for nothing."""
    return " / ".join(lines) or "-"


def undo_told(book):
    """The line of the event that is taken back."""
    return event_line(book.undo())


def events_told(book):
    """How many events there are."""
    return str(len(book))


def log_told(book):
    """The lines of the events."""
    return str(book)


def today_told(book):
    """Today."""
    return str(book.day_now)


def bases_told(book):
    """The bases of the tasks."""
    return spaced(book.bases_now)


def can_told(book):
    """The tasks that can be done today."""
    return spaced(book.can_do())


def missed_told(book):
    """The tasks that are missed, with their late days."""
    return spaced([f"{name}@{day}" for name, day in book.missed_now()])


def site_told(book):
    """The lines of the site as it is."""
    return slashed(site_lines(book.site_now))


def table_told(book):
    """The rows of the table."""
    return slashed(book.table())


def visits_told(book, upto):
    """The fewest visits from today on."""
    return spaced(book.visits_now(upto))


def days_told(book, name):
    """The early, the due and the late day of a task."""
    return spaced([day_text(day) for day in book.days_of(name)])


def base_told(book, name):
    """The base of a task."""
    return str(book[name])


def bars_told(book, event):
    """Why an event is not possible."""
    reason = book.barred(event)
    return "-" if reason is None else reason


def event_from(text):
    """The event that a string writes; None if it writes none."""
    try:
        event = read_event(text)
    except InvalidText:
        return None
    return event


def site_from(row):
    """The site that the lines of a log's first element write; None if a row does not consist of these alone."""
    try:
        log = read_log(row.split("\n"))
    except InvalidText:
        return None
    return log[0][1] if len(log) == 1 else None


# What is asked by one word, and what is asked of something: with what reads it.
ANSWERS = {
    "undo": undo_told, "events": events_told, "log": log_told, "today": today_told, "bases": bases_told,
    "can": can_told, "missed": missed_told, "site": site_told, "table": table_told,
}
ANSWERS_OF = {"visits": visits_told, "days": days_told, "base": base_told, "bars": bars_told}


def asked_in(word, rest):
    """What is asked about, behind its word; None if it cannot be."""
    if word == "visits":
        return number_from(rest)
    return event_from(rest) if word == "bars" else name_from(rest)


class Desk:
    """A desk, at first without a book."""

    def __init__(self):
        self._book = None
        self._started = 0
        self._finished = 0

    def _answer(self, row):
        """The answer to a row."""
        site = site_from(row)
        if site is not None:
            self._book = Book(site)
            return "ok"
        if self._book is None:
            raise InvalidRow(row)
        event = event_from(row)
        if event is not None:
            return day_text(self._book.go(event))
        if row in ANSWERS:
            answer = ANSWERS[row]
            return answer(self._book)
        word, _, rest = row.partition(" ")
        asked = asked_in(word, rest) if word in ANSWERS_OF else None
        if asked is None:
            raise InvalidRow(row)
        answer_of = ANSWERS_OF[word]
        return answer_of(self._book, asked)

    def say(self, row):
        """Does what a row says, and returns the answer."""
        self._started = self._started + 1
        try:
            return self._answer(row)
        finally:
            self._finished = self._started

    def tally(self):
        """How many calls of say have started, and how many have finished."""
        return (self._started, self._finished)
