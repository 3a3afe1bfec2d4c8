"""Which parts should be exchanged, so that the first late day is latest."""

from whichfirst.counting import later
from whichfirst.duedays import least_late
from whichfirst.goingby import are_bases
from whichfirst.kinds import is_number
from whichfirst.needs import need
from whichfirst.sitechanges import exchanged


def exchanges_of(site):
    """The list of all exchanges of a site, ascending."""
    parts = [row[0] for row in site[1]]
    return [()] + [(part, other) for k, part in enumerate(parts) for other in parts[k + 1:]]


def late_behind(site, bases, day, exchange):
    """The first late day of a site behind an exchange on a day."""
    if len(exchange) == 0:
        return least_late(site, bases)[0]
    return least_late(exchanged(site, exchange[0], exchange[1], day), bases)[0]


def first_late(site, bases):
    """The least late day of the tasks of a site, each from its base; None if none has one."""
    need(are_bases(site, bases), "bases")
    return least_late(site, bases)[0]


def all_exchanges(site, bases, day):
    """Yields the pairs (exchange, first late day behind it) of all exchanges on a day, ascending."""
    need(are_bases(site, bases), "bases")
    need(is_number(day), "day")
    for exchange in exchanges_of(site):
        yield (exchange, late_behind(site, bases, day, exchange))


def best_exchange(site, bases, day):
    """The pair of the greatest first late day behind an exchange, and of the exchanges that have it."""
    rows = list(all_exchanges(site, bases, day))
    best = rows[0][1]
    for _, late in rows:
        best = later(best, late)
    return (best, tuple([exchange for exchange, late in rows if late == best]))
