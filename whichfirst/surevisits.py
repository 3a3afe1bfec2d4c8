"""Visits that are sure to keep a site in all runs of its machines within bounds."""

from whichfirst.boundchecker import is_bounds
from whichfirst.counting import sooner
from whichfirst.duedays import days_for, window_in
from whichfirst.kinds import is_number
from whichfirst.needs import need
from whichfirst.surewindows import common_days, in_run


def counting_windows(low, high, task, upto):
    """The list of the sure windows of all windows of a kept task that count; None if they cannot all be visited.

    low and high are the site in these runs. A window counts just if that of
    high ends ahead of the day.
    """
    windows = []
    low_base, base = 0, 0
    low_days, days = days_for(low, task, low_base), days_for(high, task, base)
    while days[2] is not None and days[2] < upto:
        sure = common_days(window_in(low_base, low_days), window_in(base, days))
        if days[1] == base or sure is None:
            return None
        windows.append(sure)
        # Low has a window here, so it has a due day, too.
        low_base, base = low_days[1], days[1]
        low_days, days = days_for(low, task, low_base), days_for(high, task, base)
    return windows


def all_counting(low, high, upto):
    """The list of the sure windows of all windows that count; None if they cannot all be visited."""
    found = []
    for task in low[2]:
        windows = [] if task[2] == "fresh" else counting_windows(low, high, task, upto)
        if windows is None:
            return None
        found.extend(windows)
    return found


def next_needed(high, windows, base, upto):
    """The last day for the next visit, fresh tasks being done on day base; None if none is needed."""
    needed = None
    for task in high[2]:
        if task[2] == "fresh":
            needed = sooner(needed, days_for(high, task, base)[2])
    for _, last in windows:
        needed = sooner(needed, last)
    return needed if needed is not None and needed < upto else None


def visits_in(high, windows, upto):
    """The fewest visits that keep all fresh tasks of a site and of which one lies in each of the windows, or None."""
    visits = []
    left = windows
    # More use makes no late day later, so fresh tasks that are kept with high are kept in all runs.
    day = next_needed(high, left, 0, upto)
    while day is not None:
        if len(visits) > 0 and day <= visits[-1]:
            return None
        visits.append(day)
        left = [window for window in left if window[0] > day]
        day = next_needed(high, left, day, upto)
    return tuple(visits)


def sure_visits(site, bounds, upto):
    """The fewest sure visits up to a day; None if there are none."""
    need(is_bounds(site, bounds), "bounds")
    need(is_number(upto), "upto")
    low, high = in_run(site, bounds[0]), in_run(site, bounds[1])
    windows = all_counting(low, high, upto)
    return None if windows is None else visits_in(high, windows, upto)
