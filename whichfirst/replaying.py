"""Logs of books: which values are such, and the books that they tell."""

from whichfirst.books import Book
from whichfirst.errors import InvalidPaper, NotUsable
from whichfirst.events import is_event
from whichfirst.kinds import is_one_of, is_tuple_of


def is_of_book(site):
    """Whether a book can be made of any value."""
    try:
        Book(site)
    except (InvalidPaper, NotUsable):
        return False
    return True


def is_log(thing):
    """Whether any value begins as a log of a book does, and goes on with events by kind, possible or not."""
    if not isinstance(thing, tuple) or len(thing) == 0:
        return False
    start = thing[0]
    if not is_tuple_of(start, 2) or not is_one_of(start[0], ("book",)) or not is_of_book(start[1]):
        return False
    return all([is_event(event) for event in thing[1:]])


def replayed(log):
    """A new book behind the events of a log."""
    book = Book(log[0][1])
    book.follow(log[1:])
    return book
