"""What one limit says of another one for all ways in which machines can run.

Between two numbers that stand in the limits nothing changes. So a few counts
stand for all: of each stretch of hours and of cycles the least count, of each
stretch of days the greatest one, which leaves the most room to the others.
"""

from whichfirst.kinds import is_limit, is_use
from whichfirst.limitparts import is_only, is_passed, left_out, parts_of, plain_limits
from whichfirst.needs import need


def is_caps(thing):
    """Whether any value is caps, or None."""
    return thing is None or is_use(thing)


def can_come(counts, caps):
    """Whether counts can come with these caps."""
    hours, cycles, days = counts
    if caps is None:
        return days > 0 or (hours == 0 and cycles == 0)
    return hours <= caps[0] * days and cycles <= caps[1] * days


def least_counts(plain, word):
    """The least count of each stretch between the numbers of a word."""
    return sorted(set([0] + [number + 1 for name, number in plain if name == word]))


def greatest_days(plain):
    """The greatest day count of each stretch; of the last one, which does not end, one that leaves room to all."""
    ends = [number for name, number in plain if name == "days"]
    return sorted(set(ends + [sum([number for _, number in plain]) + 1]))


def some_parting(limit, other, caps):
    """Counts that can come and pass other, but not limit; None if there are none."""
    plain = plain_limits(limit) + plain_limits(other)
    for days in greatest_days(plain):
        for hours in least_counts(plain, "hours"):
            for cycles in least_counts(plain, "cycles"):
                counts = (hours, cycles, days)
                if can_come(counts, caps) and is_passed(other, counts) and not is_passed(limit, counts):
                    return counts
    return None


def have_same(limit, other, caps):
    """Whether the same counts of those that can come pass both limits."""
    return some_parting(limit, other, caps) is None and some_parting(other, limit, caps) is None


def is_idle(limit, path, caps):
    """Whether the part to which a path leads is idle."""
    if len(path) == 0 or is_only(limit, path):
        return False
    return have_same(limit, left_out(limit, path), caps)


def idle_in(limit, caps):
    """The list of the paths of all idle parts, ascending."""
    return [path for path, _ in parts_of(limit) if is_idle(limit, path, caps)]


def need_limits(limit, other, caps):
    """Raises the errors of what is asked of two limits."""
    need(is_limit(limit), "limit")
    need(is_limit(other), "other")
    need(is_caps(caps), "caps")


def never_later(limit, other, caps):
    """Whether limit is never passed later than other."""
    need_limits(limit, other, caps)
    return some_parting(limit, other, caps) is None


def are_alike(limit, other, caps):
    """Whether neither limit is ever passed later than the other one."""
    need_limits(limit, other, caps)
    return have_same(limit, other, caps)


def parting_counts(limit, other, caps):
    """Any counts that can come and pass other, but not limit; None if there are none."""
    need_limits(limit, other, caps)
    return some_parting(limit, other, caps)


def idle_parts(limit, caps):
    """The set of the paths of all idle parts of a limit."""
    need(is_limit(limit), "limit")
    need(is_caps(caps), "caps")
    return tuple(idle_in(limit, caps))


def lean_limit(limit, caps):
    """The limit without its idle parts, left out one after the other as long as there is one."""
    need(is_limit(limit), "limit")
    need(is_caps(caps), "caps")
    lean = limit
    idle = idle_in(lean, caps)
    while len(idle) > 0:
        # What was idle need not be so without the first one, so all are asked again.
        lean = left_out(lean, idle[0])
        idle = idle_in(lean, caps)
    return lean
