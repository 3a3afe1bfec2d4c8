"""The checker of papers of sure visits."""

from whichfirst.boundchecker import is_bounds
from whichfirst.duedays import days_for
from whichfirst.errors import InvalidPaper
from whichfirst.kinds import are_days, are_pairs, is_integer, is_number, is_one_of, is_tuple_of
from whichfirst.needs import need
from whichfirst.siteparts import has_row, row_in
from whichfirst.surevisits import counting_windows, is_barred
from whichfirst.surewindows import in_run


def has_shape(thing):
    """Whether any value looks like a sure paper."""
    if not is_tuple_of(thing, 3) or not is_one_of(thing[0], ("visits", "never")):
        return False
    word, behind, last = thing
    if word == "never":
        return isinstance(behind, str) and is_integer(last)
    if not isinstance(behind, tuple) or not all([is_integer(day) for day in behind]):
        return False
    return are_pairs(last) and all([isinstance(name, str) and is_integer(k) for name, k in last])


def keep_fresh(high, task, visits, upto):
    """Whether visits keep a fresh task up to a day."""
    base = 0
    for day in visits + (upto,):
        late = days_for(high, task, base)[2]
        if late is not None and late < day:
            return False
        base = day
    return True


def keep_kept(low, high, task, visits, upto):
    """Whether in the sure window of each window of a kept task that counts lies one of the visits."""
    for window in counting_windows(low, high, task, upto):
        if is_barred(window):
            return False
        first, last = window[0]
        if not any([first <= day <= last for day in visits]):
            return False
    return True


def is_reason(low, high, reason, visit, before, upto):
    """Whether (name, k) tells why there is a visit on a day, behind the one before, which can be None."""
    name, k = reason
    if not has_row(high[2], name):
        return False
    task = row_in(high[2], name)
    if task[2] == "fresh":
        return k == 0 and days_for(high, task, 0 if before is None else before)[2] == visit
    windows = counting_windows(low, high, task, upto)
    if k < 0 or k >= len(windows):
        return False
    first, last = windows[k][0]
    return last == visit and (before is None or first > before)


def check_sure(low, high, upto, visits, reasons):
    """Raises the first error of visits and of their reasons."""
    if not are_days(visits) or not all([day <= upto for day in visits]):
        raise InvalidPaper("visits", -1)
    if len(visits) != len(reasons):
        raise InvalidPaper("many", -1)
    for j, task in enumerate(high[2]):
        is_fresh = task[2] == "fresh"
        is_sure = keep_fresh(high, task, visits, upto) if is_fresh else keep_kept(low, high, task, visits, upto)
        if not is_sure:
            raise InvalidPaper("task", j)
    for i, visit in enumerate(visits):
        before = visits[i - 1] if i > 0 else None
        if visit >= upto or not is_reason(low, high, reasons[i], visit, before, upto):
            raise InvalidPaper("reason", i)


def is_never(low, high, upto, name, k):
    """Whether there are no sure visits because of a fresh task on day k, or because of window k of a kept one."""
    if not has_row(high[2], name) or not is_number(k):
        return False
    task = row_in(high[2], name)
    if task[2] == "fresh":
        return k < upto and days_for(high, task, k)[2] == k
    windows = counting_windows(low, high, task, upto)
    if k < len(windows):
        return is_barred(windows[k])
    # Behind a window whose base is its due day each one is like it.
    return len(windows) > 0 and windows[-1][1]


def lets_sure(site, bounds, upto, thing):
    """How many visits a sure paper has, None if it tells that there are none; InvalidPaper for any other value."""
    need(is_bounds(site, bounds), "bounds")
    need(is_number(upto), "upto")
    if not has_shape(thing):
        raise InvalidPaper("shape", -1)
    low, high = in_run(site, bounds[0]), in_run(site, bounds[1])
    if thing[0] == "visits":
        check_sure(low, high, upto, thing[1], thing[2])
        return len(thing[1])
    if not is_never(low, high, upto, thing[1], thing[2]):
        raise InvalidPaper("never", -1)
    return None
