"""The fewest visits that keep a site up to a day, each as late as the late days let it be."""

from whichfirst.duedays import least_late
from whichfirst.errors import NeverKept
from whichfirst.goingby import bases_behind, first_bases
from whichfirst.kinds import is_number
from whichfirst.needs import need
from whichfirst.sitechanges import without_task


def greedy_way(site, bases, before, upto):
    """The visits behind the day before, up to a day, that go on from these bases, each on the least late day.

    Returns the list of the pairs (day, names), names the tasks that have this
    late day, the least late day behind all, and the list of those that have it.
    If that day is below upto, these are missed whatever is done.
    """
    row = []
    last = before
    now = bases
    late, names = least_late(site, now)
    while late is not None and last < late < upto:
        row.append((late, tuple(names)))
        last = late
        now = bases_behind(site, now, late)
        late, names = least_late(site, now)
    return row, late, names


def greedy_row(site, bases, before, upto):
    """The visits of the greedy way and the least late day behind all; NeverKept if none keep the site."""
    row, late, names = greedy_way(site, bases, before, upto)
    if late is not None and late < upto:
        raise NeverKept(names[0], late)
    return row, late


def first_row(site, upto):
    """The greedy row of a site from its first day on, and the least late day behind it."""
    # The first visit can be on day 0.
    return greedy_row(site, first_bases(site), -1, upto)


def visits_of(site, upto):
    """The fewest visits, as a list of days."""
    return [day for day, _ in first_row(site, upto)[0]]


def fewest_visits(site, upto):
    """The fewest visits that keep the site up to a day."""
    need(is_number(upto), "upto")
    return tuple(visits_of(site, upto))


def how_few(site, upto):
    """How many visits keep the site up to a day, at the fewest."""
    need(is_number(upto), "upto")
    return len(visits_of(site, upto))


def lighter_without(site, upto):
    """The set of the tasks without each of which alone fewer visits do."""
    need(is_number(upto), "upto")
    many = len(visits_of(site, upto))
    names = [task[0] for task in site[2]]
    return tuple([name for name in names if len(visits_of(without_task(site, name), upto)) < many])
