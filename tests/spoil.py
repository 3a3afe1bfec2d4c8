"""Values that are changed at one place, however deep in them."""


def places_in(thing, path=()):
    """The paths to all that is in nested tuples, itself included."""
    found = [path]
    if isinstance(thing, tuple):
        for k, part in enumerate(thing):
            found += places_in(part, path + (k,))
    return found


def put(thing, path, change):
    """The value with what a path leads to changed by a function."""
    if not path:
        return change(thing)
    k = path[0]
    return thing[:k] + (put(thing[k], path[1:], change),) + thing[k + 1:]


def spoilt_part(random, part, others):
    """Another value, for one of any kind: the likely ones are near to it."""
    choice = random.random()
    if choice < 0.15:
        return random.choice((True, False, None, -1, '', 'nobody', [], (), (None, None), 10 ** 59))
    if choice < 0.3:
        return random.choice(others)
    if isinstance(part, tuple) and part:
        k, m = random.randrange(len(part)), random.randrange(len(part))
        return random.choice((
            part[:k] + part[k + 1:], part[:k] + part[k:k + 1] + part[k:], part[:k] + (part[m],) + part[k + 1:], part[::-1],
            list(part), part + (part[k],), part[:k] + (random.choice(others),) + part[k:],
        ))
    if isinstance(part, int):
        return part + random.choice((-2, -1, 1, 1, 2, 5))
    return random.choice(others)


def spoilt(random, thing, others, many=1):
    """The value with so many places in it changed; others are values that may stand in it."""
    for _ in range(many):
        path = random.choice(places_in(thing))
        thing = put(thing, path, lambda part: spoilt_part(random, part, others))
    return thing
