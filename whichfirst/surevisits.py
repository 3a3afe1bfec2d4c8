"""Visits that are sure to keep a site in all runs of its machines within bounds."""

from whichfirst.boundchecker import is_bounds
from whichfirst.duedays import days_for, window_in
from whichfirst.kinds import is_number
from whichfirst.needs import need
from whichfirst.surewindows import common_days, in_run


def counting_windows(low, high, task, upto):
    """The list of the pairs (sure window, whether its base is its due day in high) of a kept task's windows that count.

    low and high are the site in these runs. A window counts just if that of
    high ends ahead of the day. The list ends with the first one whose base is
    its due day: each behind it is like this one.
    """
    windows = []
    low_base, base = 0, 0
    days = days_for(high, task, base)
    is_stuck = False
    while not is_stuck and days[2] is not None and days[2] < upto:
        low_window, low_due = None, None
        if low_base is not None:
            low_days = days_for(low, task, low_base)
            low_window, low_due = window_in(low_base, low_days), low_days[1]
        is_stuck = days[1] == base
        windows.append((common_days(low_window, window_in(base, days)), is_stuck))
        low_base, base = low_due, days[1]
        days = days_for(high, task, base)
    return windows


def is_barred(window):
    """Whether no visit is sure in one of the windows that count."""
    return window[0] is None or window[1]


def all_counting(low, high, upto):
    """The list of the triples (sure window, whether its base is its due day, (name, k)) of all windows that count."""
    found = []
    for task in high[2]:
        windows = counting_windows(low, high, task, upto) if task[2] == "kept" else []
        found.extend([(sure, is_stuck, (task[0], k)) for k, (sure, is_stuck) in enumerate(windows)])
    return found


def next_needed(high, windows, base, upto):
    """The pair of the last day for the next visit and of its reason, (name, k); None if none is needed.

    base is the day on which fresh tasks were done.
    """
    needed = None
    for task in high[2]:
        late = days_for(high, task, base)[2] if task[2] == "fresh" else None
        if late is not None and late < upto and (needed is None or late < needed[0]):
            needed = (late, (task[0], 0))
    for sure, _, reason in windows:
        if needed is None or sure[1] < needed[0]:
            needed = (sure[1], reason)
    return needed


def sure_plan(low, high, upto):
    """A sure paper: the fewest sure visits with their reasons, or the reason why there are none."""
    left = all_counting(low, high, upto)
    for window in left:
        if is_barred(window):
            return ("never",) + window[2]
    visits = []
    reasons = []
    # More use makes no late day later, so fresh tasks that are kept with high are kept in all runs.
    needed = next_needed(high, left, 0, upto)
    while needed is not None:
        day, reason = needed
        if len(visits) > 0 and day <= visits[-1]:
            # What is left of the windows ends behind the last visit, so it is a fresh task, late on that very day.
            return ("never", reason[0], visits[-1])
        visits.append(day)
        reasons.append(reason)
        left = [window for window in left if window[0][0] > day]
        needed = next_needed(high, left, day, upto)
    return ("visits", tuple(visits), tuple(reasons))


def sure_visits(site, bounds, upto):
    """The fewest sure visits up to a day; None if there are none."""
    need(is_bounds(site, bounds), "bounds")
    need(is_number(upto), "upto")
    plan = sure_plan(in_run(site, bounds[0]), in_run(site, bounds[1]), upto)
    return plan[1] if plan[0] == "visits" else None
