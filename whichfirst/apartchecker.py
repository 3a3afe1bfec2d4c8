"""The checker of windows without a common day: no visits that keep a site are fewer than these."""

from whichfirst.duedays import days_for, window_in
from whichfirst.errors import InvalidPaper
from whichfirst.kinds import are_pairs, is_number
from whichfirst.needs import need
from whichfirst.siteparts import is_kept, row_in


def window_ahead(site, task, k, upto):
    """Window k of a kept task; None if there is none, it has no day, or it does not end ahead of a day."""
    base = 0
    days = days_for(site, task, base)
    for _ in range(k):
        due = days[1]
        # No window ends ahead of its base, so k can be as great as it likes.
        if due is None or due >= upto:
            return None
        if due == base:
            break
        base = due
        days = days_for(site, task, base)
    window = window_in(base, days)
    if window is None or window[1] is None or window[1] >= upto:
        return None
    return window


def have_common(window, other):
    """Whether two windows that end have a day in common."""
    return window[0] <= other[1] and other[0] <= window[1]


def lets_apart(site, upto, thing):
    """How many pairs (task, k) of windows without a common day there are; InvalidPaper for any other value."""
    need(is_number(upto), "upto")
    if not are_pairs(thing):
        raise InvalidPaper("shape", -1)
    windows = []
    for n, (name, k) in enumerate(thing):
        if not is_kept(site, name):
            raise InvalidPaper("task", n)
        window = window_ahead(site, row_in(site[2], name), k, upto) if is_number(k) else None
        if window is None:
            raise InvalidPaper("window", n)
        for m, other in enumerate(windows):
            if have_common(window, other):
                raise InvalidPaper("common", (m, n))
        windows.append(window)
    return len(windows)
