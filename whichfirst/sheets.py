"""The tasks of a site from a day on, as they are done one by one."""

from whichfirst.dues import Due
from whichfirst.errors import NotUsable
from whichfirst.goingby import able_on, bases_done, first_bases, missed_ahead
from whichfirst.kinds import is_number
from whichfirst.needs import need
from whichfirst.sameness import are_same


def in_order(dues):
    """The list of some Dues, ascending."""
    ordered = []
    for due in dues:
        k = len([other for other in ordered if other < due])
        ordered = ordered[:k] + [due] + ordered[k:]
    return ordered


def need_names(names, able):
    """Raises NotUsable for what is no set of names among those that are able."""
    need(isinstance(names, tuple), "names")
    for k, name in enumerate(names):
        if name not in able or (k > 0 and name <= names[k - 1]):
            raise NotUsable("names", k)


class Sheet:
    """The tasks of a site on a day, with their bases. It changes by the setter of today, += and doing alone."""

    def __init__(self, site, *, today=0):
        need(is_number(today), "today")
        self._site = site
        self._today = today
        self._bases = first_bases(site)
        self._names = tuple([task[0] for task in site[2]])

    @property
    def today(self):
        """The day."""
        return self._today

    @today.setter
    def today(self, value):
        need(is_number(value) and value >= self._today, "today")
        self._today = value

    def __iadd__(self, other):
        need(is_number(other), "days")
        self._today = self._today + other
        return self

    @property
    def bases(self):
        """The bases of the tasks."""
        return self._bases

    @property
    def dues(self):
        """The ascending tuple of the Dues of all tasks with their bases."""
        return tuple(in_order([Due(self._site, name, base) for name, base in zip(self._names, self._bases)]))

    @property
    def overdue(self):
        """The set of the tasks whose late day is ahead of today."""
        return tuple([name for name, _ in missed_ahead(self._site, self._bases, self._today)])

    def doing(self, names):
        """These tasks are done today. Returns the set of the tasks that can be done today then."""
        need_names(names, able_on(self._site, self._bases, self._today))
        self._bases = bases_done(self._site, self._bases, self._today, names)
        return able_on(self._site, self._bases, self._today)

    def __contains__(self, x):
        return x in able_on(self._site, self._bases, self._today)

    def __iter__(self):
        return iter(self._names)

    def __len__(self):
        return len(self._names)

    def __eq__(self, other):
        if not isinstance(other, Sheet):
            return False
        return self._today == other._today and self._bases == other._bases and are_same(self._site, other._site)
