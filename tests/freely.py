"""A plain look at free visits: each day, each choice of tasks, each base."""

from itertools import combinations

import brute
import days


def doing(site, task, base, day):
    """The pair (way, base behind) of a task on a day; None if it cannot be done."""
    if task[2] == 'fresh':
        return ('fresh', day)
    if days.lies_in(site, task, base, day):
        return ('window', days.doings(site, task, base, day)[-1][1])
    early = days.early_due_late(site, task, base)[0]
    return ('anew', day) if day > base and (early is None or day < early) else None


def able(site, bases, day):
    """For each task that can be done the pair (way, base behind)."""
    told = {task[0]: doing(site, task, base, day) for task, base in zip(site[2], bases)}
    return {name: way for name, way in told.items() if way is not None}


def choices(site, bases, day):
    """All pairs (names, bases behind) of the visits on a day."""
    told = able(site, bases, day)
    for many in range(1, len(told) + 1):
        for names in combinations(sorted(told), many):
            yield names, tuple(told[task[0]][1] if task[0] in names else base for task, base in zip(site[2], bases))


def cost(site, names, prices):
    return prices[0] + sum(price for task, price in zip(site[2], prices[1]) if task[0] in names)


def behind(site, upto, free):
    """The bases behind free visits that keep a site; None if some of them cannot be, or do not."""
    bases, last = (0,) * len(site[2]), -1
    for day, names in free:
        told = dict(choices(site, bases, day))
        if not last < day <= upto or brute.miss(site, bases, day) or names not in told:
            return None
        bases, last = told[names], day
    return None if brute.miss(site, bases, upto) else bases


def least(site, upto, prices):
    """The least cost of all free visits that keep a site; None if none do."""
    table = {(0,) * len(site[2]): 0}
    for day in range(upto + 1):
        told = {bases: paid for bases, paid in table.items() if not brute.miss(site, bases, day)}
        for bases, paid in list(told.items()):
            for names, then in choices(site, bases, day):
                total = paid + cost(site, names, prices)
                told[then] = min(total, told.get(then, total))
        table = told
    return min([paid for bases, paid in table.items() if not brute.miss(site, bases, upto)], default=None)


def is_over(site, upto, bases):
    return not brute.miss(site, bases, upto)


def next_visits(site, upto, state):
    """All triples (names, day, bases) of the next visits of a state."""
    day, bases = state
    missed = brute.miss(site, bases, upto)
    if missed:
        for visit in range(day + 1, min(missed)[0] + 1):
            for names, then in choices(site, bases, visit):
                yield names, visit, then


def all_states(site, upto):
    """All states to which next visits lead from the first one."""
    found, new = set(), [(-1, (0,) * len(site[2]))]
    while new:
        state = new.pop()
        if state not in found:
            found.add(state)
            new.extend((day, then) for _, day, then in next_visits(site, upto, state))
    return found
