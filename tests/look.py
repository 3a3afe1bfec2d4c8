"""Small limits, caps, and a plain look at all counts that can come."""

from itertools import combinations, product

import plain
from helpers import ODD

CAPS = (None, (0, 0), (1, 0), (0, 1), (1, 1), (2, 1), (1, 3), (9, 9))
MOST = 5
NO_CAPS = tuple(value for value in ODD if value is not None and value != (None, None)) + (
    (None, None), [8, 2], (8,), (8, 2, 0), (True, 2), (8, False), (8, -1), ('8', 2), (None, 2), 'ab', 8, ((8, 2),),
)
NO_LIMIT = ODD + (('hours', 0), ('later', ()), ['days', 1])


def small_limits():
    """Limits with numbers to 3; a count to 4 tells all of them apart, and a day count to 4 leaves room for it."""
    flat = plain.limits_to(2, 0, 0) + [('hours', 3), ('days', 3)]
    found = list(flat)
    for word in ('first', 'later'):
        found += [(word, (part,)) for part in flat[:2]]
        found += [(word, pair) for pair in combinations(flat, 2)]
    for word, other in (('first', 'later'), ('later', 'first')):
        found += [(word, (part, (other, pair))) for part in flat[::3] for pair in combinations(flat[::2], 2)]
    return found


def triples():
    """Limits with three in a tuple, some of them alike or one within another."""
    flat = plain.limits_to(2, 0, 0)
    found = [(word, parts) for word in ('first', 'later') for parts in product(flat[::2], flat, flat[::3])]
    inner = ('later', (('hours', 1), ('days', 2)))
    found += [('first', (inner, part, ('later', (part, inner)))) for part in flat]
    found += [('later', (('first', (part, inner)), inner, part)) for part in flat]
    return found


class Look:
    """A plain look at all counts that can come up to a bound."""

    def __init__(self):
        self.counts = list(product(range(MOST + 1), repeat=3))
        self.can = {caps: self.mask(set(plain.coming(caps, MOST)).__contains__) for caps in CAPS}
        self.known = {}

    def mask(self, told):
        return sum(1 << k for k, counts in enumerate(self.counts) if told(counts))

    def passed(self, limit):
        if limit not in self.known:
            self.known[limit] = self.mask(lambda counts: plain.passes(limit, counts))
        return self.known[limit]

    def never_later(self, limit, other, caps):
        return self.can[caps] & self.passed(other) & ~self.passed(limit) == 0

    def alike(self, limit, other, caps):
        return self.never_later(limit, other, caps) and self.never_later(other, limit, caps)

    def idle(self, limit, caps):
        parts = dict(plain.paths_in(limit))
        return tuple(sorted(
            path for path in parts
            if path and len(parts[path[:-1]][1]) > 1 and self.alike(limit, plain.without(limit, path), caps)
        ))


LOOK = Look()
LIMITS = small_limits()
