"""Free visits: what can be done on a day, also too early, whether they keep a site, and what they cost."""

from whichfirst.duedays import days_for
from whichfirst.errors import InvalidPaper
from whichfirst.goingby import are_bases, doings_of, first_bases, missed_ahead
from whichfirst.kinds import are_numbers, are_pairs, do_rise, is_number, is_tuple_of
from whichfirst.needs import need
from whichfirst.siteparts import has_row, index_in


def doing_of(site, task, base, day):
    """The pair (way, base behind it) in which a task is done on a day; None if it cannot be done then."""
    doings = doings_of(site, task, base, day)
    if len(doings) > 0:
        return ("fresh" if task[2] == "fresh" else "window", doings[-1][1])
    if day <= base:
        return None
    early = days_for(site, task, base)[0]
    return ("anew", day) if early is None or day < early else None


def is_prices(site, thing):
    """Whether any value is prices: of a visit, and of each task."""
    return is_tuple_of(thing, 2) and is_number(thing[0]) and are_numbers(thing[1], len(site[2]))


def has_free_shape(thing):
    """Whether any value looks like free visits: a tuple of pairs of a number and a tuple."""
    return are_pairs(thing) and all([is_number(day) and isinstance(names, tuple) for day, names in thing])


def are_tasks(site, names):
    """Whether a tuple is a nonempty set of tasks."""
    return len(names) > 0 and all([has_row(site[2], name) for name in names]) and do_rise(names)


def bases_named(site, bases, day, names):
    """The bases behind a visit at which these tasks are done, None instead of that of one that cannot be done then."""
    behind = list(bases)
    for name in names:
        k = index_in(site[2], name)
        doing = doing_of(site, site[2][k], bases[k], day)
        behind[k] = None if doing is None else doing[1]
    return tuple(behind)


def bases_free(site, bases, k, visit):
    """The bases behind a visit, the one of index k; InvalidPaper if not all of its names can be done then."""
    day, names = visit
    if len(missed_ahead(site, bases, day)) > 0:
        raise InvalidPaper("missed", k)
    if not are_tasks(site, names):
        raise InvalidPaper("names", k)
    behind = bases_named(site, bases, day, names)
    for j, name in enumerate(names):
        if behind[index_in(site[2], name)] is None:
            raise InvalidPaper("task", (k, j))
    return behind


def bases_behind_free(site, upto, thing):
    """The bases behind free visits that keep a site up to a day; InvalidPaper for any other value."""
    if not has_free_shape(thing):
        raise InvalidPaper("shape", -1)
    bases = first_bases(site)
    for k, visit in enumerate(thing):
        if visit[0] > upto or (k > 0 and visit[0] <= thing[k - 1][0]):
            raise InvalidPaper("day", k)
        bases = bases_free(site, bases, k, visit)
    if len(missed_ahead(site, bases, upto)) > 0:
        raise InvalidPaper("missed", -1)
    return bases


def price_of(site, free, prices):
    """What free visits cost."""
    works = [prices[1][index_in(site[2], name)] for _, names in free for name in names]
    return len(free) * prices[0] + sum(works)


def can_do(site, bases, day):
    """The set of the pairs (task, way) of all tasks that can be done on a day with these bases."""
    need(are_bases(site, bases), "bases")
    need(is_number(day), "day")
    rows = [(task[0], doing_of(site, task, base, day)) for task, base in zip(site[2], bases)]
    return tuple([(name, doing[0]) for name, doing in rows if doing is not None])


def lets_free(site, upto, thing):
    """The bases behind free visits that keep a site up to a day; InvalidPaper for any other value."""
    need(is_number(upto), "upto")
    return bases_behind_free(site, upto, thing)


def cost_of(site, upto, free, prices):
    """What free visits that keep a site up to a day cost."""
    need(is_number(upto), "upto")
    need(is_prices(site, prices), "prices")
    bases_behind_free(site, upto, free)
    return price_of(site, free, prices)
