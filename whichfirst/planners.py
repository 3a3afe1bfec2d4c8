"""A planner: the fewest visits of a site, for a day that is put further and back."""

from whichfirst.kinds import is_number
from whichfirst.needs import need
from whichfirst.planning import first_row
from whichfirst.sameness import are_same


def plan_for(site, upto):
    """The triple of the fewest visits, of the tasks for which each one is, and of the last day they keep the site."""
    need(is_number(upto), "upto")
    row, last = first_row(site, upto)
    return tuple([day for day, _ in row]), tuple([names for _, names in row]), last


class Planner:
    """The fewest visits of a site up to a day. It changes by the setter of this day, longer and shorter alone."""

    def __init__(self, site, upto):
        self._visits, self._reasons, self._last = plan_for(site, upto)
        self._site = site
        self._upto = upto

    @property
    def site(self):
        """The site."""
        return self._site

    @property
    def upto(self):
        """The day up to which the visits keep the site."""
        return self._upto

    @upto.setter
    def upto(self, value):
        self._visits, self._reasons, self._last = plan_for(self._site, value)
        self._upto = value

    @property
    def visits(self):
        """The fewest visits."""
        return self._visits

    @property
    def reasons(self):
        """For each visit the set of the tasks whose late day, behind the visits before, it is."""
        return self._reasons

    @property
    def last(self):
        """The last day up to which these visits keep the site; None if there is none."""
        return self._last

    def longer(self):
        """Goes on to the least day for which a visit more is needed, and returns this visit; None if there is none."""
        if self._last is None:
            return None
        visit = self._last
        self.upto = visit + 1
        return visit

    def shorter(self):
        """Goes back to the day of the last visit, so that it is not needed, and returns it; None if there is none."""
        if len(self._visits) == 0:
            return None
        visit = self._visits[-1]
        self.upto = visit
        return visit

    def copy(self):
        """Another Planner of the same site and day."""
        return Planner(self._site, self._upto)

    def __len__(self):
        return len(self._visits)

    def __getitem__(self, at):
        need(is_number(at) and at < len(self._visits), "visit")
        return self._visits[at]

    def __iter__(self):
        return iter(self._visits)

    def __contains__(self, x):
        # Only a number is looked for: to Python True is equal to 1.
        return is_number(x) and x in self._visits

    def __eq__(self, other):
        return isinstance(other, Planner) and self._upto == other._upto and are_same(self._site, other._site)
