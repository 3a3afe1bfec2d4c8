"""The definitions of sites, days and visits, with days counted one by one: the tests compare the program with them."""

from functools import lru_cache
from random import Random

import plain

# Behind this day nothing new happens in the small sites: all limits that are ever passed are passed before it.
FAR = 60


def place(stays, day):
    found = None
    for start, where in stays:
        if start <= day:
            found = where
    return found


def use(site, part, day):
    where = place(dict(site[1])[part], day)
    if where is None:
        return (0, 0)
    uses = dict(site[0])[where]
    return uses[min(day, len(uses) - 1)]


def counts(site, part, first, last):
    days = [use(site, part, day) for day in range(first, last)]
    return (sum(day[0] for day in days), sum(day[1] for day in days), last - first)


def rows(site, part, base):
    """The pairs (day, counts from base) of the days from base on."""
    hours = cycles = 0
    found = []
    for day in range(base, base + FAR):
        found.append((day, (hours, cycles, day - base)))
        more = use(site, part, day)
        hours, cycles = hours + more[0], cycles + more[1]
    return found


def passing(site, part, limit, base):
    return next((day for day, told in rows(site, part, base) if plain.passes(limit, told)), None)


def last_not_passing(site, part, limit, base):
    """The last day whose counts do not pass; None if no counts ever do."""
    found = [day for day, told in rows(site, part, base) if not plain.passes(limit, told)]
    return None if len(found) == FAR else found[-1]


@lru_cache(maxsize=None)
def early_due_late(site, task, base):
    name, part, way, limit, slack = task
    due = last_not_passing(site, part, limit, base)
    late = last_not_passing(site, part, plain.moved(limit, slack), base)
    reached = [day for day, told in rows(site, part, base)[1:] if plain.reaches(limit, slack, told)]
    choices = reached[:1] + [late] * (late is not None)
    return (min(choices) if choices else None, due, late)


def window(site, task, base):
    """All days of the window of a kept task below base + FAR, and whether it goes on and on; None if there is none."""
    early, due, late = early_due_late(site, task, base)
    if task[2] == 'fresh' or due is None:
        return None
    days = [day for day in range(base + 1, base + FAR) if early <= day and (late is None or day <= late)]
    return (days, late is None) if days else None


def lies_in(site, task, base, day):
    told = window(site, task, base)
    return told is not None and (day in told[0] or told[1] and day > told[0][-1])


def doings(site, task, base, day):
    """The pairs (before, behind) of a task at a visit."""
    if task[2] == 'fresh':
        return [(base, day)]
    found = []
    while lies_in(site, task, base, day):
        due = early_due_late(site, task, base)[1]
        found.append((base, due))
        if due == base:
            break
        base = due
    return found


class Story:
    """Visits that go by, from the first bases on or from others."""

    def __init__(self, site, days, upto=0, bases=None):
        self.bases = [0] * len(site[2]) if bases is None else list(bases)
        self.rows = []
        self.missed = set()
        for day in days:
            self.miss(site, day)
            for k, task in enumerate(site[2]):
                for before, behind in doings(site, task, self.bases[k], day):
                    self.rows.append((day, task[0], before, behind))
                    self.bases[k] = behind
        self.miss(site, upto)

    def miss(self, site, day):
        for task, base in zip(site[2], self.bases):
            late = early_due_late(site, task, base)[2]
            if late is not None and late < day:
                self.missed.add((task[0], late))


def random_limit(random, deep=2):
    if deep == 0 or random.random() < 0.5:
        return (random.choice(('hours', 'hours', 'cycles', 'days')), random.randint(1, 6))
    parts = tuple(random_limit(random, deep - 1) for _ in range(random.randint(1, 3)))
    return (random.choice(('first', 'later')), parts)


def random_use(random, most=3):
    return (random.randint(0, most), random.choice((0, 0, 1, 2)))


def random_stays(random, places):
    days = [0] + sorted(random.sample(range(1, 12), random.randint(0, 2)))
    return tuple((day, random.choice(places)) for day in days)


def random_site(random):
    machines = tuple(
        (name, tuple(random_use(random) for _ in range(random.randint(1, 4)))) for name in ('lift', 'mill')
    )
    parts = tuple((name, random_stays(random, ('lift', 'mill', 'mill', None))) for name in ('pump', 'saw'))
    tasks = tuple(
        (
            name, random.choice(('pump', 'saw')), random.choice(('fresh', 'kept', 'kept')), random_limit(random),
            tuple(random.choice((0, 0, 1, 2, 9)) for _ in range(3)),
        )
        for name in ('a', 'b', 'c')[:random.randint(1, 3)]
    )
    return (machines, parts, tasks)


def small_sites(many, seed):
    random = Random(seed)
    return [random_site(random) for _ in range(many)]
