"""Whether nested values are equal, at whatever depth: Python itself compares what is nested by calls."""


def flat_of(thing):
    """A list without nesting, by which values of numbers, strings, None and tuples of these are equal."""
    found = []
    waiting = [thing]
    while len(waiting) > 0:
        part = waiting.pop()
        if isinstance(part, tuple):
            found.append(("tuple", len(part)))
            waiting.extend(part[::-1])
        else:
            found.append(("plain", part))
    return found


def are_same(thing, other):
    """Whether two such values are equal."""
    return flat_of(thing) == flat_of(other)
