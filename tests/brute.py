"""A plain look at all sets of days: which of them keep a site, and how few they can be."""

from itertools import combinations

import days


def miss(site, bases, day):
    """The pairs (late day, index) of the tasks whose late day is ahead of a day."""
    found = []
    for k, (task, base) in enumerate(zip(site[2], bases)):
        late = days.early_due_late(site, task, base)[2]
        if late is not None and late < day:
            found.append((late, k))
    return found


def behind(site, bases, day):
    """The bases behind a visit."""
    return tuple(days.Story(site, (day,), bases=bases).bases)


def keep(site, visits, upto, first=0, bases=None):
    """Whether these visits, on days from first on, keep a site from these bases on."""
    now = (0,) * len(site[2]) if bases is None else bases
    for day in visits:
        if not first <= day <= upto or miss(site, now, day):
            return False
        now = behind(site, now, day)
    return not miss(site, now, upto)


def all_keeping(site, upto, first=0, bases=None):
    """All sets of days up to a day that keep a site, the smaller ones first."""
    choice = range(first, upto + 1)
    sets = [visits for many in range(len(choice) + 1) for visits in combinations(choice, many)]
    return [visits for visits in sets if keep(site, visits, upto, first, bases)]


def fewest(site, upto, first=0, bases=None):
    """How few visits keep a site, by going through all days with all bases that can be; None if none do."""
    states = {(0,) * len(site[2]) if bases is None else bases: 0}
    for day in range(first, upto + 1):
        told = dict(states)
        for now, many in states.items():
            if not miss(site, now, day):
                then = behind(site, now, day)
                told[then] = min(many + 1, told.get(then, many + 1))
        states = told
    return min([many for now, many in states.items() if not miss(site, now, upto)], default=None)
