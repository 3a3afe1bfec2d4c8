"""Tasks with a base, as values that are compared by when they are late."""

from whichfirst.counting import counts_in, spans_of
from whichfirst.duedays import days_for, need_task
from whichfirst.goingby import are_bases
from whichfirst.kinds import is_integer, is_number
from whichfirst.limitparts import COUNT_AT, plain_limits
from whichfirst.needs import need
from whichfirst.siteparts import row_in


class Due:
    """A task of a site with a base. It never changes."""

    def __init__(self, site, name, base):
        need_task(site, name, base)
        task = row_in(site[2], name)
        self._name = name
        self._base = base
        self._spans = spans_of(site, task[1])
        self._plain = plain_limits(task[3])
        self._early_on, self._due_on, self._late_on = days_for(site, task, base)
        # No late day is above all numbers.
        is_never = self._late_on is None
        self._rank = (is_never, 0 if is_never else self._late_on, name, base)

    @property
    def name(self):
        """The name of the task."""
        return self._name

    @property
    def base(self):
        """The base."""
        return self._base

    @property
    def early_on(self):
        """The early day."""
        return self._early_on

    @property
    def due_on(self):
        """The due day."""
        return self._due_on

    @property
    def late_on(self):
        """The late day."""
        return self._late_on

    def __call__(self, day):
        need(is_number(day) and day >= self._base, "day")
        counts = counts_in(self._spans, self._base, day)
        return tuple([(word, number, number - counts[COUNT_AT[word]]) for word, number in self._plain])

    def __lt__(self, other):
        if not isinstance(other, Due):
            return NotImplemented
        return self._rank < other._rank

    def __le__(self, other):
        if not isinstance(other, Due):
            return NotImplemented
        return self._rank <= other._rank

    def __eq__(self, other):
        if not isinstance(other, Due):
            return NotImplemented
        return self._rank == other._rank

    @classmethod
    def nearest(cls, site, bases):
        """The least Due of all tasks with these bases; None without a task."""
        need(are_bases(site, bases), "bases")
        least = None
        for task, base in zip(site[2], bases):
            due = cls(site, task[0], base)
            if least is None or due < least:
                least = due
        return least

    @staticmethod
    def word_for(left):
        """Whether what is left of a limit is over, full or open."""
        need(is_integer(left), "left")
        if left < 0:
            return "over"
        return "full" if left == 0 else "open"
