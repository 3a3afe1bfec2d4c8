"""Sites as great as the document lets them be ([10]): three machines with ten uses, four parts, four tasks."""

from random import Random
from unittest import mock

import days

PARTS = ('axle', 'belt', 'chain', 'disc')
MACHINES = ('crane', 'lift', 'mill')


def counted_far():
    """Days are counted further than in the small sites, as limits are greater here."""
    return mock.patch.object(days, 'FAR', 260)


def limit_of(random, least, deep=3, many=6):
    """A limit with at most so many names, nested at most so deep."""
    if deep == 0 or many < 2 or random.random() < 0.4:
        word = random.choice(('hours', 'hours', 'cycles', 'days'))
        return (word, random.randint(least, 99) if word != 'days' else random.randint(least // 2 + 2, 40))
    first = random.randint(1, many - 1)
    parts = tuple(limit_of(random, least, deep - 1, part) for part in (first, many - first))
    return (random.choice(('first', 'later')), parts)


def stays_of(random, most):
    starts = [0] + sorted(random.sample(range(1, most), random.randint(0, 2)))
    return tuple((day, random.choice(MACHINES + (None,) * (day > 0))) for day in starts)


def great_site(random, tasks=4, most=60, use=12, least=24):
    machines = tuple((name, tuple((random.randint(0, use), random.randint(0, use)) for _ in range(10))) for name in MACHINES)
    parts = tuple((name, stays_of(random, most)) for name in PARTS)
    told = tuple(
        (name, random.choice(PARTS), random.choice(('fresh', 'kept')), limit_of(random, least), tuple(random.randint(0, 9) for _ in range(3)))
        for name in ('grease', 'oil', 'rinse', 'turn')[:tasks]
    )
    return (machines, parts, told)


def great_sites(many, seed, **more):
    random = Random(seed)
    return [great_site(random, **more) for _ in range(many)]


def great_bounds(site, random, more=2):
    """Bounds of a site with as many uses as it has."""
    low = tuple((name, tuple((max(0, a - random.randint(0, more)), max(0, b - random.randint(0, more))) for a, b in uses)) for name, uses in site[0])
    return (low, site[0])


def some_run(bounds, random):
    """Any run within bounds."""
    return tuple(
        (name, tuple(tuple(random.randint(a, b) for a, b in zip(*pair)) for pair in zip(lows, highs)))
        for (name, lows), (_, highs) in zip(*bounds)
    )
