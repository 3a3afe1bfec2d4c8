"""The due, late and early days of tasks, and the windows of kept ones."""

from whichfirst.counting import later, passing_in, sooner, spans_of
from whichfirst.kinds import is_number
from whichfirst.limitparts import lowered, widened
from whichfirst.needs import need
from whichfirst.siteparts import has_row, row_in


def day_before(day):
    """The day before a day, None if it is None."""
    return None if day is None else day - 1


def days_for(site, task, base):
    """The triple (early, due, late day) of a task of the site for a base."""
    spans = spans_of(site, task[1])
    limit, slack = task[3], task[4]
    due = day_before(passing_in(spans, limit, base))
    late = day_before(passing_in(spans, widened(limit, slack), base))
    reached = passing_in(spans, lowered(limit, slack), base)
    return (sooner(later(reached, base + 1), late), due, late)


def window_in(base, days):
    """The window of a kept task with these early, due and late days for its base; None if there is no day in one."""
    early, due, late = days
    if due is None or late == base:
        return None
    return (early, late)


def lies_in(day, window):
    """Whether a day lies in a window, which can be None."""
    return window is not None and window[0] <= day and (window[1] is None or day <= window[1])


def least_late(site, bases):
    """The least late day of all tasks with these bases, and the list of those that have it; None and [] without one."""
    rows = [(task[0], days_for(site, task, base)[2]) for task, base in zip(site[2], bases)]
    least = None
    for _, late in rows:
        least = sooner(least, late)
    return least, [name for name, late in rows if late is not None and late == least]


def need_task(site, name, base):
    """Raises the errors of what is asked of a task and a base."""
    need(has_row(site[2], name), "name")
    need(is_number(base), "base")


def due_day(site, name, base):
    """The due day of a task for a base."""
    need_task(site, name, base)
    return days_for(site, row_in(site[2], name), base)[1]


def late_day(site, name, base):
    """The late day of a task for a base."""
    need_task(site, name, base)
    return days_for(site, row_in(site[2], name), base)[2]


def early_day(site, name, base):
    """The early day of a task for a base."""
    need_task(site, name, base)
    return days_for(site, row_in(site[2], name), base)[0]


def window_of(site, name, base):
    """The window of a kept task as its first and last day, this being None if it goes on; None if it has no days."""
    need_task(site, name, base)
    task = row_in(site[2], name)
    if task[2] == "fresh":
        return None
    return window_in(base, days_for(site, task, base))


def windows_of(site, name, upto):
    """Yields (base, early, late, due) of a task for base 0, then for each due day as base that is not behind upto."""
    need(has_row(site[2], name), "name")
    need(is_number(upto), "upto")
    task = row_in(site[2], name)
    base = 0
    goes_on = True
    while goes_on:
        early, due, late = days_for(site, task, base)
        yield (base, early, late, due)
        goes_on = due is not None and base < due <= upto
        base = due
