"""Runs of the machines within small bounds, and their windows, with days counted one by one."""

from itertools import product
from random import Random

import days

# All windows that the tests ask for lie ahead of this day, or go on and on.
FAR = 140


def in_run(site, run):
    return (run, site[1], site[2])


def all_runs(bounds):
    """All runs within bounds."""
    low, high = bounds
    rows = []
    for (name, lows), (_, highs) in zip(low, high):
        choices = [range(a, b + 1) for use, other in zip(lows, highs) for a, b in zip(use, other)]
        rows.append([(name, tuple(zip(told[::2], told[1::2]))) for told in product(*choices)])
    return list(product(*rows))


def random_bounds(site, random, more=4):
    """Bounds of a site with few runs, their uses as many or not as many as those of the site."""
    low, high = [], []
    for name, _ in site[0]:
        lows = tuple(days.random_use(random) for _ in range(random.randint(1, 3)))
        highs = []
        for use in lows:
            use = list(use)
            if more and random.random() < 0.6:
                at, by = random.randrange(2), random.choice((1, 1, 1, 3))
                use[at] += by
                more -= 1
            highs.append(tuple(use))
        low.append((name, lows))
        high.append((name, tuple(highs)))
    return (tuple(low), tuple(high))


def some_bounds(many, seed):
    """Pairs of a small site and bounds of it."""
    random = Random(seed)
    return [(site, random_bounds(site, random)) for site in days.small_sites(many, seed)]


def task_of(site, name):
    return next(task for task in site[2] if task[0] == name)


def days_of_k(site, task, k):
    """The tuple (base, early, due, late) of window k; None if there is none."""
    base = 0
    for _ in range(k):
        due = days.early_due_late(site, task, base)[1]
        if due is None or due == base:
            break
        base = due
    told = days.early_due_late(site, task, base)
    return None if told[1] is None else (base,) + told


def window_k(site, task, k):
    """The set of the days, below FAR, of window k, empty if it has none; None if there is none."""
    told = days_of_k(site, task, k)
    if told is None:
        return None
    base, early, _, late = told
    return {day for day in range(base + 1, FAR) if early <= day and (late is None or day <= late)}


def sure_days(site, bounds, task, k):
    """The set of the days, below FAR, that are in window k of all runs."""
    windows = [window_k(in_run(site, run), task, k) for run in all_runs(bounds)]
    return set() if None in windows else set.intersection(*windows)


def as_pair(told):
    """A set of days as the program tells a window; None if there is none."""
    if not told:
        return None
    assert told == set(range(min(told), max(told) + 1))
    return (min(told), None if max(told) == FAR - 1 else max(told))
