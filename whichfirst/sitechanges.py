"""Sites with something changed in them. Each function returns the changed site."""

from whichfirst.kinds import is_limit, is_name, is_number, is_slack, is_tuple_of, is_uses, is_way
from whichfirst.needs import need
from whichfirst.sitechecker import lets_site
from whichfirst.siteparts import has_row, place_in, row_in


def with_rows(rows, row):
    """The rows with this one in the place of the one of its name."""
    return tuple([row if other[0] == row[0] else other for other in rows])


def with_stays(site, part, stays):
    """The site with these stays of a part."""
    return (site[0], with_rows(site[1], (part, stays)), site[2])


def with_changed_task(site, task):
    """The site with this task in the place of the one of its name."""
    return (site[0], site[1], with_rows(site[2], task))


def stays_ahead(stays, day):
    """The stays that begin ahead of a day."""
    return tuple([stay for stay in stays if stay[0] < day])


def stays_behind(stays, day):
    """The stays that begin behind a day."""
    return tuple([stay for stay in stays if stay[0] > day])


def stays_taken(stays, others, day):
    """The stays of a part that has those of another one from a day on."""
    return stays_ahead(stays, day) + ((day, place_in(others, day)),) + stays_behind(others, day)


def index_for(tasks, task):
    """The index at which any value is to stand among the tasks."""
    if not is_tuple_of(task, 5) or not is_name(task[0]) or has_row(tasks, task[0]):
        return len(tasks)
    return len([row for row in tasks if row[0] < task[0]])


def with_stay(site, part, day, place):
    """A part is at a place from a day on, for good."""
    need(has_row(site[1], part), "part")
    need(is_number(day), "day")
    need(place is None or has_row(site[0], place), "place")
    return with_stays(site, part, stays_ahead(row_in(site[1], part)[1], day) + ((day, place),))


def exchanged(site, part, other, day):
    """Each of two parts has the places of the other one from a day on."""
    need(has_row(site[1], part), "part")
    need(has_row(site[1], other) and other != part, "other")
    need(is_number(day), "day")
    stays, others = row_in(site[1], part)[1], row_in(site[1], other)[1]
    half = with_stays(site, part, stays_taken(stays, others, day))
    return with_stays(half, other, stays_taken(others, stays, day))


def with_task(site, task):
    """There is a task more. InvalidPaper, as the checker of sites tells it, for what cannot be one."""
    k = index_for(site[2], task)
    more = (site[0], site[1], site[2][:k] + (task,) + site[2][k:])
    lets_site(more)
    return more


def without_task(site, name):
    """There is a task less."""
    need(has_row(site[2], name), "task")
    return (site[0], site[1], tuple([task for task in site[2] if task[0] != name]))


def with_limit(site, name, limit, slack):
    """A task has this limit and this slack."""
    need(has_row(site[2], name), "task")
    need(is_limit(limit), "limit")
    need(is_slack(slack), "slack")
    return with_changed_task(site, row_in(site[2], name)[:3] + (limit, slack))


def with_way(site, name, way):
    """A task has this way."""
    need(has_row(site[2], name), "task")
    need(is_way(way), "way")
    task = row_in(site[2], name)
    return with_changed_task(site, task[:2] + (way,) + task[3:])


def with_uses(site, machine, uses):
    """A machine has these uses."""
    need(has_row(site[0], machine), "machine")
    need(is_uses(uses), "uses")
    return (with_rows(site[0], (machine, uses)), site[1], site[2])
