"""Windows of which no two have a day in common: there are as many as visits are needed."""

from whichfirst.duedays import windows_of
from whichfirst.kinds import is_number
from whichfirst.needs import need
from whichfirst.planning import first_row


def windows_ahead(site, name, upto):
    """The list of the tuples (late, early, name, k) of all windows of a kept task that end ahead of a day."""
    # A window that ends ahead of the day has its base ahead of it, too.
    rows = list(windows_of(site, name, upto))
    return [(late, early, name, k) for k, (_, early, late, _) in enumerate(rows) if late is not None and late < upto]


def apart_of(windows):
    """As many as possible of these windows of which no two have a day in common, as a list of pairs (name, k)."""
    chosen = []
    last = -1
    # The one that ends first leaves the most days to the others.
    for late, early, name, k in sorted(set(windows)):
        if early > last:
            chosen.append((name, k))
            last = late
    return chosen


def apart_windows(site, upto):
    """A set of as many as possible pairs (task, k) whose windows end ahead of a day and have no day in common."""
    need(all([task[2] == "kept" for task in site[2]]), "site")
    need(is_number(upto), "upto")
    # It is asked for its error: where visits keep the site, no window ahead of the day is its own next one.
    first_row(site, upto)
    windows = []
    for task in site[2]:
        windows.extend(windows_ahead(site, task[0], upto))
    return tuple(sorted(set(apart_of(windows))))
