"""Papers of the least cost of free visits, or of why none keep a site."""

from whichfirst.freecosts import cheapest
from whichfirst.freeing import is_prices
from whichfirst.freestates import FreeLook
from whichfirst.goingby import first_bases
from whichfirst.kinds import is_number
from whichfirst.needs import need


def costs_below(look, first, most):
    """A dict: for the first state, and for each one to which free visits lead for less than most, their least cost.

    With most None it is for each one to which any free visits lead.
    """
    costs = {first: 0}
    waiting = {first[0]: [first]}
    while len(waiting) > 0:
        # All visits lead to later days, so what a state of the first day costs is known.
        day = sorted(set(waiting))[0]
        states = waiting.pop(day)
        for state in states:
            for cost, then in look.next_states(state):
                total = costs[state] + cost
                if most is None or total < most:
                    if then not in costs:
                        waiting.setdefault(then[0], []).append(then)
                    if then not in costs or total < costs[then]:
                        costs[then] = total
    return costs


def worth_paper(site, upto, prices):
    """A paper of the least cost of free visits that keep a site up to a day, or of why none do."""
    need(is_number(upto), "upto")
    need(is_prices(site, prices), "prices")
    look = FreeLook(site, upto, prices)
    first = (-1, first_bases(site))
    found = cheapest(site, upto, prices)
    if found is None:
        return (None, tuple(sorted(set(costs_below(look, first, None)))))
    least, free = found
    costs = costs_below(look, first, least)
    # What is left to be paid is no more than the least cost without what is paid already.
    return (free, tuple([(state, least - costs[state]) for state in sorted(set(costs))]))
