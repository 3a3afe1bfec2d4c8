"""Bounds between which the use of the machines of a site is known, and runs within them."""

from whichfirst.errors import InvalidPaper
from whichfirst.kinds import is_machines, is_tuple_of
from whichfirst.needs import need


def has_names(site, machines):
    """Whether machines have the names of those of the site."""
    return [row[0] for row in machines] == [row[0] for row in site[0]]


def is_between(use, low, high):
    """Whether each number of a use is from that of low to that of high."""
    return all([low[k] <= use[k] <= high[k] for k in range(2)])


def fault_between(run, low, high):
    """The first fault (word, at) of the uses of a run between low and high; None if there is none."""
    for i in range(len(run)):
        uses, lows, highs = run[i][1], low[i][1], high[i][1]
        if not len(uses) == len(lows) == len(highs):
            return "many", i
        for j, use in enumerate(uses):
            if not is_between(use, lows[j], highs[j]):
                return "use", (i, j)
    return None


def bounds_fault(site, thing):
    """The first fault (word, at) of any value as bounds of the site; None if it is such."""
    if not is_tuple_of(thing, 2) or not all([is_machines(machines) for machines in thing]):
        return "shape", -1
    for k, machines in enumerate(thing):
        if not has_names(site, machines):
            return "names", k
    # Bounds are right just if low itself is a run within them.
    return fault_between(thing[0], thing[0], thing[1])


def run_fault(site, bounds, thing):
    """The first fault (word, at) of any value as a run within bounds; None if it is one."""
    if not is_machines(thing):
        return "shape", -1
    if not has_names(site, thing):
        return "names", -1
    return fault_between(thing, bounds[0], bounds[1])


def is_bounds(site, thing):
    """Whether any value is bounds of the site."""
    return bounds_fault(site, thing) is None


def many_uses(machines):
    """How many uses machines have, all together."""
    return sum([len(row[1]) for row in machines])


def lets_bounds(site, thing):
    """How many uses low has in bounds of the site; InvalidPaper for any other value."""
    fault = bounds_fault(site, thing)
    if fault is not None:
        raise InvalidPaper(fault[0], fault[1])
    return many_uses(thing[0])


def lets_run(site, bounds, thing):
    """How many uses a run within bounds has; InvalidPaper for any other value."""
    need(is_bounds(site, bounds), "bounds")
    fault = run_fault(site, bounds, thing)
    if fault is not None:
        raise InvalidPaper(fault[0], fault[1])
    return many_uses(thing)
