"""Limits: whether counts pass them, and the limits that are in them.

Nothing here calls itself: limits that are joined again and again can be nested
deeper than calls can.
"""

from whichfirst.kinds import COUNT_WORDS, JOIN_WORDS, is_limit, is_number
from whichfirst.needs import need

COUNT_AT = {"hours": 0, "cycles": 1, "days": 2}


def limits_in(limit):
    """The list of all limits in a limit, itself first, in the order of their paths."""
    found = []
    waiting = [limit]
    while len(waiting) > 0:
        part = waiting.pop()
        found.append(part)
        if part[0] in JOIN_WORDS:
            waiting.extend(part[1][::-1])
    return found


def plain_limits(limit):
    """The list of the limits of hours, cycles or days in a limit, as they stand in it."""
    return [part for part in limits_in(limit) if part[0] in COUNT_WORDS]


def shifted(limit, by):
    """The limit with each number greater by its count's number of by; below 1 it is a limit no more."""
    # Backwards all parts of a limit come ahead of it, the first one last.
    built = []
    for word, rest in limits_in(limit)[::-1]:
        if word in COUNT_WORDS:
            built.append((word, rest + by[COUNT_AT[word]]))
        else:
            parts = []
            for _ in rest:
                parts.append(built.pop())
            built.append((word, tuple(parts)))
    return built[0]


def lowered(limit, slack):
    """The limit that counts pass just if they reach this one by the slack."""
    return shifted(limit, [-number - 1 for number in slack])


def is_passed(limit, counts):
    """Whether counts pass a limit."""
    told = []
    for word, rest in limits_in(limit)[::-1]:
        if word in COUNT_WORDS:
            told.append(counts[COUNT_AT[word]] > rest)
        else:
            parts = []
            for _ in rest:
                parts.append(told.pop())
            told.append(any(parts) if word == "first" else all(parts))
    return told[0]


def is_reached(limit, slack, counts):
    """Whether counts reach a limit by a slack."""
    return is_passed(lowered(limit, slack), counts)


def widened(limit, slack):
    """The limit widened by a slack."""
    return shifted(limit, slack)


def names_in(limit):
    """The set of the words of counts that are in a limit."""
    return tuple(sorted(set([part[0] for part in plain_limits(limit)])))


def parts_of(limit):
    """The tuple of the pairs (path, limit) of all paths of a limit, ascending."""
    found = []
    waiting = [((), limit)]
    while len(waiting) > 0:
        path, part = waiting.pop()
        found.append((path, part))
        if part[0] in JOIN_WORDS:
            inner = [(path + (k,), other) for k, other in enumerate(part[1])]
            waiting.extend(inner[::-1])
    return tuple(found)


def is_path(limit, path):
    """Whether any value is a path of a limit."""
    if not isinstance(path, tuple):
        return False
    part = limit
    for k in path:
        if part[0] not in JOIN_WORDS or not is_number(k) or k >= len(part[1]):
            return False
        part = part[1][k]
    return True


def at_path(limit, path):
    """The limit to which a path of a limit leads."""
    part = limit
    for k in path:
        part = part[1][k]
    return part


def put_at_path(limit, path, other):
    """The limit with other at the end of a path of it."""
    part = other
    for depth in reversed(range(len(path))):
        word, rest = at_path(limit, path[:depth])
        k = path[depth]
        part = (word, rest[:k] + (part,) + rest[k + 1:])
    return part


def is_only(limit, path):
    """Whether a path, not the one to the limit itself, leads to the only limit of its tuple."""
    return len(at_path(limit, path[:-1])[1]) == 1


def left_out(limit, path):
    """The limit without what a path leads to, which is neither the limit itself nor the only one there."""
    word, rest = at_path(limit, path[:-1])
    k = path[-1]
    return put_at_path(limit, path[:-1], (word, rest[:k] + rest[k + 1:]))


def part_at(limit, path):
    """The limit to which a path leads."""
    need(is_path(limit, path), "path")
    return at_path(limit, path)


def with_part(limit, path, other):
    """The limit with other in the place of the one to which a path leads."""
    need(is_path(limit, path), "path")
    need(is_limit(other), "other")
    return put_at_path(limit, path, other)


def without_part(limit, path):
    """The limit without the one to which a path leads."""
    need(is_path(limit, path) and len(path) > 0, "path")
    need(not is_only(limit, path), "only")
    return left_out(limit, path)
