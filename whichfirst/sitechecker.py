"""Checkers of limits and of sites: they accept any value."""

from whichfirst.errors import InvalidPaper
from whichfirst.kinds import COUNT_WORDS, JOIN_WORDS, is_above_zero, is_limit, is_machine, is_name, is_one_of
from whichfirst.kinds import is_slack, is_stays, is_tuple_of, is_way


def limit_fault(thing):
    """The word of what is wrong with any value as a limit, but for the limits in it; None if nothing is."""
    if not is_tuple_of(thing, 2) or not is_one_of(thing[0], COUNT_WORDS + JOIN_WORDS):
        return "word"
    word, rest = thing
    if word in COUNT_WORDS:
        return None if is_above_zero(rest) else "number"
    return None if isinstance(rest, tuple) and len(rest) > 0 else "limits"


def lets_limit(thing):
    """How many limits of hours, cycles or days are in a limit; InvalidPaper for any other value."""
    many = 0
    waiting = [((), thing)]
    while len(waiting) > 0:
        path, part = waiting.pop()
        fault = limit_fault(part)
        if fault is not None:
            raise InvalidPaper(fault, path)
        if part[0] in COUNT_WORDS:
            many = many + 1
        else:
            inner = [(path + (k,), other) for k, other in enumerate(part[1])]
            waiting.extend(inner[::-1])
    return many


def is_risen(rows, i):
    """Whether the name of row i is greater than that of the row before."""
    return i == 0 or rows[i - 1][0] < rows[i][0]


def check_machines(machines):
    """Raises the first error of a tuple as machines."""
    for i, row in enumerate(machines):
        if not is_machine(row) or not is_risen(machines, i):
            raise InvalidPaper("machine", i)


def check_parts(parts, names):
    """Raises the first error of a tuple as parts on machines with these names."""
    for i, row in enumerate(parts):
        if not is_tuple_of(row, 2) or not is_name(row[0]) or not is_stays(row[1]) or not is_risen(parts, i):
            raise InvalidPaper("part", i)
        for j, stay in enumerate(row[1]):
            if stay[1] is not None and stay[1] not in names:
                raise InvalidPaper("place", (i, j))


def task_fault(row, names):
    """The word of what is wrong with a tuple of five, from its second name on; None if nothing is."""
    if row[1] not in names:
        return "owner"
    if not is_way(row[2]):
        return "way"
    if not is_limit(row[3]):
        return "limit"
    return None if is_slack(row[4]) else "slack"


def check_tasks(tasks, names):
    """Raises the first error of a tuple as tasks of parts with these names."""
    for i, row in enumerate(tasks):
        if not is_tuple_of(row, 5) or not is_name(row[0]) or not is_name(row[1]) or not is_risen(tasks, i):
            raise InvalidPaper("task", i)
        fault = task_fault(row, names)
        if fault is not None:
            raise InvalidPaper(fault, i)


def lets_site(thing):
    """How many tasks a site has; InvalidPaper for any other value."""
    if not is_tuple_of(thing, 3) or not all([isinstance(rows, tuple) for rows in thing]):
        raise InvalidPaper("shape", -1)
    machines, parts, tasks = thing
    check_machines(machines)
    check_parts(parts, [row[0] for row in machines])
    check_tasks(tasks, [row[0] for row in parts])
    return len(tasks)
