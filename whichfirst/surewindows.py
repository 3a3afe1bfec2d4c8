"""Windows in runs of the machines, and those days of windows that are in them in all runs within bounds."""

from whichfirst.boundchecker import has_names, is_bounds
from whichfirst.duedays import days_for, window_in
from whichfirst.kinds import is_machines, is_number
from whichfirst.needs import need
from whichfirst.siteparts import is_kept, row_in


def in_run(site, run):
    """The site with the machines of a run."""
    return (run, site[1], site[2])


def window_at(site, task, k):
    """Window k of a kept task, as a pair of its first and last day; None if there is none, or it has no days."""
    base = 0
    days = days_for(site, task, base)
    for _ in range(k):
        due = days[1]
        # Behind a base without a due day there is no window, behind one that is its own due day each is alike.
        if due is None or due == base:
            break
        base = due
        days = days_for(site, task, base)
    return window_in(base, days)


def common_days(low, high):
    """The days that are in a window of all runs, if these are those of low and of high; None if there are none."""
    if low is None or high is None or (high[1] is not None and low[0] > high[1]):
        return None
    # No window begins later than that of low, and none ends ahead of that of high.
    return (low[0], high[1])


def both_windows(site, bounds, name, k):
    """The pair of window k of a kept task in low and in high."""
    task = row_in(site[2], name)
    low, high = bounds
    return (window_at(in_run(site, low), task, k), window_at(in_run(site, high), task, k))


def run_window(site, run, name, k):
    """Window k of a kept task in a run; None if there is none, or it has no days."""
    need(is_machines(run) and has_names(site, run), "run")
    need(is_kept(site, name), "name")
    need(is_number(k), "k")
    return window_at(in_run(site, run), row_in(site[2], name), k)


def sure_window(site, bounds, name, k):
    """The days that are in window k of a kept task in all runs within bounds; None if there are none."""
    need(is_bounds(site, bounds), "bounds")
    need(is_kept(site, name), "name")
    need(is_number(k), "k")
    low, high = both_windows(site, bounds, name, k)
    return common_days(low, high)


def apart_runs(site, bounds, name, k):
    """Window k of a kept task in low and in high, if no day is in that of all runs; otherwise None."""
    need(is_bounds(site, bounds), "bounds")
    need(is_kept(site, name), "name")
    need(is_number(k), "k")
    low, high = both_windows(site, bounds, name, k)
    return (low, high) if common_days(low, high) is None else None
