"""The lists of errors of the checkers, entry by entry as the document has them, over plain looks at days and states."""

from functools import lru_cache

import brute
import days
import freely
from runs import all_runs, days_of_k, in_run, sure_days


def is_number(thing):
    return type(thing) is int and thing >= 0


def are_pairs(thing):
    return type(thing) is tuple and all(type(row) is tuple and len(row) == 2 for row in thing)


def task_of(site, name):
    """The task of a name, any value; None if there is none."""
    return next((task for task in site[2] if type(name) is str and task[0] == name), None)


def first_of(checks):
    """The error of the first pair (error, whether it applies) that does, asked one after the other."""
    return next((error for error, applies in checks if applies()), None)


def late_of(site, bases, name):
    k = [task[0] for task in site[2]].index(name)
    return days.early_due_late(site, site[2][k], bases[k])[2]


def visits_fault(site, upto, thing):
    """The first error (word, at) of [37]; None if there is none."""
    is_tuple = type(thing) is tuple and len(thing) > 1 and type(thing[0]) is str and are_pairs(thing[1])
    if not is_tuple or (thing[0], len(thing)) not in (('visits', 2), ('missed', 3)):
        return ('shape', -1)
    rows, bases = thing[1], (0,) * len(site[2])
    for k, (day, name) in enumerate(rows):
        fault = first_of((
            (('day', k), lambda: not is_number(day) or day >= upto or k > 0 and day <= rows[k - 1][0]),
            (('task', k), lambda: task_of(site, name) is None),
            (('missed', k), lambda: brute.miss(site, bases, day)),
            (('late', k), lambda: late_of(site, bases, name) != day),
        ))
        if fault:
            return fault
        bases = brute.behind(site, bases, day)
    if thing[0] == 'visits':
        return ('missed', -1) if brute.miss(site, bases, upto) else None
    if task_of(site, thing[2]) is None:
        return ('task', -1)
    late = late_of(site, bases, thing[2])
    return ('late', -1) if not rows or late is None or late >= upto or late > rows[-1][0] else None


def apart_fault(site, upto, thing):
    """The first error of [38]."""
    if not are_pairs(thing):
        return ('shape', -1)
    windows = []
    for n, (name, k) in enumerate(thing):
        task = task_of(site, name)
        if task is None or task[2] == 'fresh':
            return ('task', n)
        told = days_of_k(site, task, min(k, 70)) if is_number(k) else None
        if told is None or told[3] is None or told[3] >= upto or told[3] == told[0]:
            return ('window', n)
        window = set(range(max(told[1], told[0] + 1), told[3] + 1))
        for m, other in enumerate(windows):
            if window & other:
                return ('common', (m, n))
        windows.append(window)
    return None


def free_fault(site, upto, thing):
    """The first error of [41]."""
    if not are_pairs(thing) or not all(is_number(day) and type(names) is tuple for day, names in thing):
        return ('shape', -1)
    bases = (0,) * len(site[2])
    for k, (day, names) in enumerate(thing):
        if day > upto or k > 0 and day <= thing[k - 1][0]:
            return ('day', k)
        if brute.miss(site, bases, day):
            return ('missed', k)
        if not names or any(task_of(site, name) is None for name in names) or sorted(set(names)) != list(names):
            return ('names', k)
        can = freely.able(site, bases, day)
        for j, name in enumerate(names):
            if name not in can:
                return ('task', (k, j))
        bases = dict(freely.choices(site, bases, day))[names]
    return ('missed', -1) if brute.miss(site, bases, upto) else None


def is_state(site, thing):
    if type(thing) is not tuple or len(thing) != 2 or type(thing[0]) is not int or thing[0] < -1:
        return False
    return type(thing[1]) is tuple and len(thing[1]) == len(site[2]) and all(map(is_number, thing[1]))


def worths_fault(site, upto, prices, thing):
    """The first error of [43]."""
    if type(thing) is not tuple or len(thing) != 2 or type(thing[1]) is not tuple:
        return ('shape', -1)
    free, rows = thing
    if free is not None and not (are_pairs(rows) and all(is_number(number) for _, number in rows)):
        return ('shape', -1)
    fault = None if free is None else free_fault(site, upto, free)
    if fault:
        return fault
    states = rows if free is None else tuple(state for state, _ in rows)
    numbers = dict(zip([repr(state) for state in states], rows if free is None else [number for _, number in rows]))
    for k, state in enumerate(states):
        if not is_state(site, state) or k > 0 and state <= states[k - 1]:
            return ('state', k)
        nexts = list(freely.next_visits(site, upto, state))
        if free is None:
            if freely.is_over(site, upto, state[1]):
                return ('over', k)
            if any(repr((day, bases)) not in numbers for _, day, bases in nexts):
                return ('next', k)
        else:
            most = [freely.cost(site, names, prices) + numbers.get(repr((day, bases)), 0) for names, day, bases in nexts]
            if freely.is_over(site, upto, state[1]):
                most = [0]
            if most and rows[k][1] > min(most):
                return ('worth', k)
    first = repr((-1, (0,) * len(site[2])))
    if free is None:
        return None if first in numbers else ('first', -1)
    return None if numbers.get(first, 0) == sum(freely.cost(site, names, prices) for _, names in free) else ('first', -1)


@lru_cache(maxsize=None)
def window_told(site, bounds, task, k, upto):
    """Whether window k counts, its sure days, and whether in high its base is its due day, by a look at all runs."""
    told = [days_of_k(in_run(site, run), task, k) for run in all_runs(bounds)]
    counts = any(row is not None and row[3] is not None and row[3] < upto for row in told)
    high = days_of_k(in_run(site, bounds[1]), task, k)
    return counts, sure_days(site, bounds, task, k), high is not None and high[2] == high[0]


def is_sure_task(site, bounds, task, visits, upto):
    high = in_run(site, bounds[1])
    if task[2] == 'fresh':
        return brute.keep((high[0], high[1], (task,)), visits, upto)
    for k in range(upto + 1):
        counts, sure, is_stuck = window_told(site, bounds, task, k, upto)
        if counts and (is_stuck or not sure & set(visits)):
            return False
    return True


def is_sure_reason(site, bounds, reason, visit, before, upto):
    task, k = task_of(site, reason[0]), reason[1]
    if task is None or k < 0 or visit >= upto:
        return False
    if task[2] == 'fresh':
        high = in_run(site, bounds[1])
        return k == 0 and days.early_due_late(high, task, 0 if before is None else before)[2] == visit
    counts, sure, _ = window_told(site, bounds, task, min(k, 70), upto)
    return counts and bool(sure) and max(sure) == visit and (before is None or min(sure) > before)


def sure_fault(site, bounds, upto, thing):
    """The first error of [57], by a look at all runs."""
    if type(thing) is not tuple or len(thing) != 3 or type(thing[0]) is not str or thing[0] not in ('visits', 'never'):
        return ('shape', -1)
    word, visits, reasons = thing
    if word == 'never':
        if type(visits) is not str or type(reasons) is not int:
            return ('shape', -1)
        task = task_of(site, visits)
        if task is None or reasons < 0:
            return ('never', -1)
        if task[2] == 'fresh':
            high = in_run(site, bounds[1])
            is_so = reasons < upto and days.early_due_late(high, task, reasons)[2] == reasons
        else:
            counts, sure, is_stuck = window_told(site, bounds, task, min(reasons, 70), upto)
            is_so = counts and (is_stuck or not sure)
        return None if is_so else ('never', -1)
    if type(visits) is not tuple or any(type(day) is not int for day in visits) or not are_pairs(reasons):
        return ('shape', -1)
    if any(type(name) is not str or type(k) is not int for name, k in reasons):
        return ('shape', -1)
    if any(not 0 <= day <= upto for day in visits) or sorted(set(visits)) != list(visits):
        return ('visits', -1)
    if len(visits) != len(reasons):
        return ('many', -1)
    for j, task in enumerate(site[2]):
        if not is_sure_task(site, bounds, task, visits, upto):
            return ('task', j)
    for i, visit in enumerate(visits):
        if not is_sure_reason(site, bounds, reasons[i], visit, visits[i - 1] if i else None, upto):
            return ('reason', i)
    return None
