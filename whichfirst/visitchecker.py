"""The checker of visit papers: how many visits keep a site, or which task is missed whatever is done."""

from whichfirst.duedays import days_for
from whichfirst.errors import InvalidPaper
from whichfirst.goingby import bases_behind, first_bases, missed_ahead
from whichfirst.kinds import are_pairs, is_number, is_one_of, is_tuple_of
from whichfirst.needs import need
from whichfirst.siteparts import has_row, index_in


def has_shape(thing):
    """Whether any value looks like a visit paper: its word, rows that are pairs, and any value behind "missed"."""
    if is_tuple_of(thing, 2):
        return is_one_of(thing[0], ("visits",)) and are_pairs(thing[1])
    return is_tuple_of(thing, 3) and is_one_of(thing[0], ("missed",)) and are_pairs(thing[1])


def late_in(site, bases, name):
    """The late day of a task with these bases."""
    k = index_in(site[2], name)
    return days_for(site, site[2][k], bases[k])[2]


def bases_by(site, upto, rows):
    """The bases behind the visits of these rows; InvalidPaper for the first row that is not as stated."""
    bases = first_bases(site)
    for k, (day, name) in enumerate(rows):
        if not is_number(day) or day >= upto or (k > 0 and day <= rows[k - 1][0]):
            raise InvalidPaper("day", k)
        if not has_row(site[2], name):
            raise InvalidPaper("task", k)
        if len(missed_ahead(site, bases, day)) > 0:
            raise InvalidPaper("missed", k)
        if late_in(site, bases, name) != day:
            raise InvalidPaper("late", k)
        bases = bases_behind(site, bases, day)
    return bases


def check_missed(site, bases, upto, rows, name):
    """Raises InvalidPaper if any value is no task that is missed whatever is done behind these rows."""
    if not has_row(site[2], name):
        raise InvalidPaper("task", -1)
    late = late_in(site, bases, name)
    if len(rows) == 0 or late is None or late >= upto or late > rows[-1][0]:
        raise InvalidPaper("late", -1)


def lets_visits(site, upto, thing):
    """How many visits a visit paper has, None if it tells that a task is missed; InvalidPaper for any other value."""
    need(is_number(upto), "upto")
    if not has_shape(thing):
        raise InvalidPaper("shape", -1)
    rows = thing[1]
    bases = bases_by(site, upto, rows)
    if thing[0] == "missed":
        check_missed(site, bases, upto, rows, thing[2])
        return None
    if len(missed_ahead(site, bases, upto)) > 0:
        raise InvalidPaper("missed", -1)
    return len(rows)
