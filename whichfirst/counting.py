"""The counts that a part runs up from day to day.

A part's days are taken in spans with one use for each day, so that nothing
here depends on how many days there are.
"""

from whichfirst.kinds import COUNT_WORDS, is_limit, is_number
from whichfirst.limitparts import COUNT_AT, limits_in
from whichfirst.needs import need
from whichfirst.siteparts import has_row, row_in, use_in


def sooner(day, other):
    """The lesser one of two days, None being behind all."""
    if day is None or (other is not None and other < day):
        return other
    return day


def later(day, other):
    """The greater one of two days, None being behind all."""
    if day is None or (other is not None and other < day):
        return day
    return other


def spans_at(machines, place, start, end):
    """The pairs (day, use) of a stay at a place from day start on, ahead of day end: each use holds up to the next."""
    if place is None:
        return [(start, (0, 0))]
    uses = row_in(machines, place)[1]
    days = [start] + [day for day in range(start + 1, len(uses)) if end is None or day < end]
    return [(day, use_in(uses, day)) for day in days]


def spans_of(site, part):
    """The list of the triples (day, end, use) of a part: from this day on, ahead of end, it runs so each day.

    The first day is 0, each end is the next day, the last end is None.
    """
    stays = row_in(site[1], part)[1]
    starts = []
    for k, (day, place) in enumerate(stays):
        end = stays[k + 1][0] if k + 1 < len(stays) else None
        starts.extend(spans_at(site[0], place, day, end))
    ends = [day for day, _ in starts[1:]] + [None]
    return [(day, end, use) for (day, use), end in zip(starts, ends)]


def counts_in(spans, first, last):
    """The counts of these spans from day first to day last."""
    hours = 0
    cycles = 0
    for day, end, use in spans:
        days = sooner(end, last) - later(day, first)
        if days > 0:
            hours = hours + days * use[0]
            cycles = cycles + days * use[1]
    return (hours, cycles, last - first)


def day_above(spans, at, number, base):
    """The first day whose hours (at 0) or cycles (at 1) from base on are greater than number; None if none are."""
    left = number
    for day, end, use in spans:
        start = later(day, base)
        if (end is None or start < end) and use[at] > 0:
            passing = start + left // use[at] + 1
            if end is None or passing <= end:
                return passing
            left = left - (end - start) * use[at]
    return None


def plain_day(spans, word, number, base):
    """The first day from base on whose count from base is greater than number; None if none is."""
    # A slack can take a number below 0: then the counts of the base itself are greater.
    if number < 0:
        return base
    if word == "days":
        return base + number + 1
    return day_above(spans, COUNT_AT[word], number, base)


def passing_in(spans, limit, base):
    """The first day from base on whose counts from base pass a limit; None if none does."""
    told = []
    for word, rest in limits_in(limit)[::-1]:
        if word in COUNT_WORDS:
            told.append(plain_day(spans, word, rest, base))
        else:
            day = told.pop()
            for _ in rest[1:]:
                other = told.pop()
                day = sooner(day, other) if word == "first" else later(day, other)
            told.append(day)
    return told[0]


def counts_between(site, part, first, last):
    """The counts of a part from day first to day last."""
    need(has_row(site[1], part), "part")
    need(is_number(first), "first")
    need(is_number(last) and first <= last, "last")
    return counts_in(spans_of(site, part), first, last)


def passing_day(site, part, limit, base):
    """The first day from base on whose counts of the part from base pass a limit; None if none does."""
    need(has_row(site[1], part), "part")
    need(is_limit(limit), "limit")
    need(is_number(base), "base")
    return passing_in(spans_of(site, part), limit, base)
