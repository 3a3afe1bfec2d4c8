"""Limits, tasks and sites that are read from texts."""

from whichfirst.linereading import limit_from, line_read, words_read

KINDS = ("machine", "part", "task")


def site_in(lines, line):
    """The triple of tuples of machines, parts and tasks that lines write; line is the index of the first of them."""
    rows = {"machine": [], "part": [], "task": []}
    kinds = KINDS
    for k, text in enumerate(lines):
        values = line_read(text, kinds, line + k, 0)
        # Behind a part no machine may stand, behind a task none of both.
        kinds = KINDS[KINDS.index(values[0]):]
        rows[values[0]].append(tuple(values[1:]))
    return tuple([tuple(rows[kind]) for kind in KINDS])


def limit_read(text, *, line=0, field=0):
    """The limit that a string writes; InvalidText if it writes none."""
    return words_read(text.split(" "), (limit_from,), line, field)[0]


def task_read(text, *, line=0, field=0):
    """The task that a string writes; InvalidText if it writes none."""
    return tuple(line_read(text, ("task",), line, field)[1:])


def site_read(text):
    """The triple of tuples of machines, parts and tasks that a string writes; InvalidText if it writes none."""
    return site_in([] if text == "" else text.split("\n"), 0)
