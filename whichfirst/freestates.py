"""States between free visits, and the visits that can come next."""

from whichfirst.counting import sooner
from whichfirst.duedays import days_for
from whichfirst.freeing import doing_of


class FreeLook:
    """What can be done with a site, and what it costs. It is asked again and again, so it finds each answer once.

    A base can be None: of a task that need not be done again, and is not.
    """

    def __init__(self, site, upto, prices):
        self._tasks = site[2]
        self._site = site
        self._upto = upto
        self._prices = prices
        self._late_days = {}
        self._behind = {}

    def late(self, k, base):
        """The late day of task k for a base, if it is below the day that is asked for; otherwise None."""
        if base is None:
            return None
        if (k, base) not in self._late_days:
            late = days_for(self._site, self._tasks[k], base)[2]
            self._late_days[(k, base)] = late if late is not None and late < self._upto else None
        return self._late_days[(k, base)]

    def first_late(self, bases):
        """The least late day below the day that is asked for; None if there is none, so that the state is over."""
        least = None
        for k, base in enumerate(bases):
            least = sooner(least, self.late(k, base))
        return least

    def behind(self, k, base, day):
        """The base of task k behind a day on which it is done; None if it cannot be done then."""
        if base is None:
            return None
        if (k, base, day) not in self._behind:
            doing = doing_of(self._site, self._tasks[k], base, day)
            self._behind[(k, base, day)] = None if doing is None else doing[1]
        return self._behind[(k, base, day)]

    def visits_on(self, bases, day):
        """The list of the triples (names, cost, bases behind it) of all visits on a day that can be."""
        rows = [((), self._prices[0], ())]
        for k, base in enumerate(bases):
            done = self.behind(k, base, day)
            more = []
            if done is not None:
                name, price = self._tasks[k][0], self._prices[1][k]
                more = [(names + (name,), cost + price, then + (done,)) for names, cost, then in rows]
            rows = [(names, cost, then + (base,)) for names, cost, then in rows] + more
        # At the first of them nothing is done.
        return rows[1:]

    def next_states(self, state):
        """The list of the pairs (cost, state) of the next visits of a state and of what they lead to."""
        day, bases = state
        least = self.first_late(bases)
        if least is None:
            return []
        found = []
        for visit in range(day + 1, least + 1):
            found.extend([(cost, (visit, then)) for _, cost, then in self.visits_on(bases, visit)])
        return found
