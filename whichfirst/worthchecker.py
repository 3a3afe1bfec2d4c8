"""The checker of papers of the least cost of free visits."""

from whichfirst.counting import sooner
from whichfirst.errors import InvalidPaper
from whichfirst.freeing import bases_behind_free, is_prices, price_of
from whichfirst.freestates import FreeLook
from whichfirst.goingby import are_bases, first_bases
from whichfirst.kinds import are_pairs, is_integer, is_number, is_tuple_of
from whichfirst.needs import need


def has_shape(thing):
    """Whether any value looks like a worth paper."""
    if not is_tuple_of(thing, 2) or not isinstance(thing[1], tuple):
        return False
    return thing[0] is None or (are_pairs(thing[1]) and all([is_number(number) for _, number in thing[1]]))


def is_state(site, thing):
    """Whether any value is a pair of a day, -1 ahead of the first one, and of bases."""
    return is_tuple_of(thing, 2) and is_integer(thing[0]) and thing[0] >= -1 and are_bases(site, thing[1])


def check_state(site, states, k):
    """Raises InvalidPaper if element k is no state, or not greater than the one before."""
    if not is_state(site, states[k]) or (k > 0 and states[k] <= states[k - 1]):
        raise InvalidPaper("state", k)


def most_worth(look, state, numbers):
    """The greatest number that a state may have; None if it may have any."""
    if look.first_late(state[1]) is None:
        return 0
    most = None
    for cost, then in look.next_states(state):
        most = sooner(most, cost + numbers.get(then, 0))
    return most


def check_worths(site, look, worths):
    """Raises the first error of the pairs of a state and its number; returns the number of the first state."""
    states = [state for state, _ in worths]
    # What is no state is looked for nowhere, and may be no key.
    numbers = {state: number for state, number in worths if is_state(site, state)}
    for k, (state, number) in enumerate(worths):
        check_state(site, states, k)
        most = most_worth(look, state, numbers)
        if most is not None and number > most:
            raise InvalidPaper("worth", k)
    return numbers.get((-1, first_bases(site)), 0)


def check_never(site, look, states):
    """Raises the first error of the states of which none is over, and which lead to one another only."""
    known = {state: True for state in states if is_state(site, state)}
    for k, state in enumerate(states):
        check_state(site, states, k)
        if look.first_late(state[1]) is None:
            raise InvalidPaper("over", k)
        if not all([then in known for _, then in look.next_states(state)]):
            raise InvalidPaper("next", k)
    if (-1, first_bases(site)) not in known:
        raise InvalidPaper("first", -1)


def lets_worths(site, upto, prices, thing):
    """The least cost that a worth paper tells, None if it tells that none keep the site; InvalidPaper for the rest."""
    need(is_number(upto), "upto")
    need(is_prices(site, prices), "prices")
    if not has_shape(thing):
        raise InvalidPaper("shape", -1)
    free, rows = thing
    look = FreeLook(site, upto, prices)
    if free is None:
        check_never(site, look, rows)
        return None
    bases_behind_free(site, upto, free)
    cost = price_of(site, free, prices)
    if check_worths(site, look, rows) != cost:
        raise InvalidPaper("first", -1)
    return cost
