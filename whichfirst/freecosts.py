"""The least cost of free visits that keep a site."""

from whichfirst.freeing import is_prices
from whichfirst.freestates import FreeLook
from whichfirst.goingby import first_bases
from whichfirst.kinds import is_number
from whichfirst.needs import need
from whichfirst.planning import first_row, visits_of


def still_open(look, bases):
    """The bases, None instead of each from which its task is not missed: to do it again would only cost."""
    return tuple([None if look.late(k, base) is None else base for k, base in enumerate(bases)])


def front_behind(look, front, done, day):
    """What comes of a front, which is that ahead of a day, by visits on this day or without one.

    A front is a dict: for bases the pair of the least cost of free visits that
    lead to them and of these visits. done are the bases for which nothing is needed.
    """
    told = {}
    for bases, (cost, visits) in front.items():
        rows = [(bases, cost, visits)]
        for names, price, then in look.visits_on(bases, day):
            rows.append((still_open(look, then), cost + price, visits + ((day, names),)))
        for key, total, row in rows:
            late = look.first_late(key)
            is_better = key not in told or total < told[key][0]
            is_worth = done not in told or total < told[done][0] or key == done
            if (late is None or late > day) and is_better and is_worth:
                told[key] = (total, row)
    return told


def cheapest(site, upto, prices):
    """The pair of the least cost of free visits that keep a site, and of such visits; None if none keep it."""
    look = FreeLook(site, upto, prices)
    done = (None,) * len(site[2])
    front = {still_open(look, first_bases(site)): (0, ())}
    for day in range(upto):
        if len(front) == 0 or list(front) == [done]:
            break
        front = front_behind(look, front, done, day)
    return front.get(done)


def cheapest_kept(site, upto, prices):
    """The pair of the least cost of free visits, and of such visits; NeverKept if none keep the site."""
    found = cheapest(site, upto, prices)
    if found is None:
        # All visits are free ones, too, but for those at which nothing is done; so none keep it, and this raises.
        first_row(site, upto)
    return found


def least_cost(site, upto, prices):
    """The least cost of free visits that keep a site up to a day."""
    need(is_number(upto), "upto")
    need(is_prices(site, prices), "prices")
    return cheapest_kept(site, upto, prices)[0]


def best_free(site, upto, prices):
    """Free visits that keep a site up to a day at the least cost."""
    need(is_number(upto), "upto")
    need(is_prices(site, prices), "prices")
    return cheapest_kept(site, upto, prices)[1]


def early_saves(site, upto):
    """By how many visits free ones that keep a site are fewer than the fewest of the others."""
    need(is_number(upto), "upto")
    many = len(visits_of(site, upto))
    return many - cheapest_kept(site, upto, (1, (0,) * len(site[2])))[0]
