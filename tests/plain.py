"""The definitions of the document, word for word and slow: the tests compare the program with them."""

from itertools import product

NAMES = {'hours': 0, 'cycles': 1, 'days': 2}


def passes(limit, counts):
    word, rest = limit
    if word == 'first':
        return any(passes(part, counts) for part in rest)
    if word == 'later':
        return all(passes(part, counts) for part in rest)
    return counts[NAMES[word]] > rest


def moved(limit, by):
    """The limit with each n greater by its count's number."""
    word, rest = limit
    if word in NAMES:
        return (word, rest + by[NAMES[word]])
    return (word, tuple(moved(part, by) for part in rest))


def reaches(limit, slack, counts):
    return passes(moved(limit, tuple(-number - 1 for number in slack)), counts)


def numbers_in(limit):
    word, rest = limit
    return [rest] if word in NAMES else [number for part in rest for number in numbers_in(part)]


def plain_in(limit):
    word, rest = limit
    return [limit] if word in NAMES else [plain for part in rest for plain in plain_in(part)]


def paths_in(limit):
    """All pairs (path, limit)."""
    found = [((), limit)]
    if limit[0] not in NAMES:
        for k, part in enumerate(limit[1]):
            found += [((k,) + path, inner) for path, inner in paths_in(part)]
    return found


def without(limit, path):
    word, rest = limit
    k = path[0]
    if len(path) == 1:
        return (word, rest[:k] + rest[k + 1:])
    return (word, rest[:k] + (without(rest[k], path[1:]),) + rest[k + 1:])


def coming(caps, most):
    """All counts that can come with no count above most."""
    found = []
    for hours, cycles, days in product(range(most + 1), repeat=3):
        if caps is None:
            fine = days > 0 or hours == cycles == 0
        else:
            fine = hours <= caps[0] * days and cycles <= caps[1] * days
        if fine:
            found.append((hours, cycles, days))
    return found


def limits_to(most, deep, wide):
    """All limits with numbers to most, nested so deep, with at most so many in a tuple."""
    found = [(word, n) for word in NAMES for n in range(1, most + 1)]
    if deep == 0:
        return found
    inner = limits_to(most, deep - 1, wide)
    for word in ('first', 'later'):
        for many in range(1, wide + 1):
            found += [(word, parts) for parts in product(inner, repeat=many)]
    return found
