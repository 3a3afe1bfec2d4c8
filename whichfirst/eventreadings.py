"""Events and logs that are read from lines."""

from whichfirst.errors import InvalidText
from whichfirst.linereading import line_read, place_of_word
from whichfirst.sitereadings import site_in

KINDS = ("pass", "done", "anew", "move", "expect", "task", "drop", "limit")


def event_in(text, line):
    """The event that the line of this index writes."""
    values = line_read(text, KINDS, line, 0)
    word = values[0]
    if word in ("pass", "task"):
        return (word, tuple(values[1:]))
    if word == "move":
        return (word, values[1], place_of_word(values[2]))
    return tuple(values)


def read_event(text):
    """The event that a string writes; InvalidText if it writes none."""
    return event_in(text, 0)


def read_log(lines):
    """The log that a list of strings writes; InvalidText if it writes none."""
    if len(lines) == 0:
        raise InvalidText(0, 0)
    end = line_read(lines[0], ("book",), 0, 0)[1] + 1
    site = site_in(lines[1:end], 1)
    if len(lines) < end:
        raise InvalidText(len(lines), 0)
    return (("book", site),) + tuple([event_in(text, end + k) for k, text in enumerate(lines[end:])])
