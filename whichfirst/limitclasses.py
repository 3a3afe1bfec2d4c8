"""Limits as values that can be compared and joined."""

from whichfirst.allruns import is_caps, lean_limit, never_later
from whichfirst.kinds import is_above_zero, is_counts, is_limit, is_slack
from whichfirst.limitparts import is_passed, plain_limits, widened
from whichfirst.needs import need
from whichfirst.sameness import are_same


class Limit:
    """A limit with caps. It changes by the setter of caps, &= and |= alone."""

    def __init__(self, limit, *, caps=None):
        need(is_limit(limit), "limit")
        need(is_caps(caps), "caps")
        self._caps = caps
        self._form = limit
        self._plain = plain_limits(limit)

    def _take(self, limit):
        """Gives it another form: for &= and |= alone."""
        self._form = limit
        self._plain = plain_limits(limit)

    @property
    def form(self):
        """The limit."""
        return self._form

    @property
    def caps(self):
        """The caps, or None."""
        return self._caps

    @caps.setter
    def caps(self, value):
        need(is_caps(value), "caps")
        self._caps = value

    @classmethod
    def hours(cls, n):
        """A Limit of hours."""
        need(is_above_zero(n), "n")
        return cls(("hours", n))

    @classmethod
    def cycles(cls, n):
        """A Limit of cycles."""
        need(is_above_zero(n), "n")
        return cls(("cycles", n))

    @classmethod
    def days(cls, n):
        """A Limit of days."""
        need(is_above_zero(n), "n")
        return cls(("days", n))

    def _is_with(self, other):
        """Whether any value is a Limit with equal caps."""
        return isinstance(other, Limit) and self._caps == other._caps

    def __le__(self, other):
        need(self._is_with(other), "b")
        return never_later(self._form, other._form, self._caps)

    def __ge__(self, other):
        need(self._is_with(other), "b")
        return never_later(other._form, self._form, self._caps)

    def __eq__(self, other):
        return isinstance(other, Limit) and are_same(self._form, other._form) and self._caps == other._caps

    def __and__(self, other):
        need(self._is_with(other), "b")
        return Limit(("first", (self._form, other._form)), caps=self._caps)

    def __or__(self, other):
        need(self._is_with(other), "b")
        return Limit(("later", (self._form, other._form)), caps=self._caps)

    def __iand__(self, other):
        need(self._is_with(other), "b")
        self._take(("first", (self._form, other._form)))
        return self

    def __ior__(self, other):
        need(self._is_with(other), "b")
        self._take(("later", (self._form, other._form)))
        return self

    def __add__(self, other):
        need(is_slack(other), "slack")
        return Limit(widened(self._form, other), caps=self._caps)

    def __call__(self, counts):
        need(is_counts(counts), "counts")
        return is_passed(self._form, counts)

    def __iter__(self):
        return iter(self._plain)

    def __len__(self):
        return len(self._plain)

    def __contains__(self, x):
        # Only a limit is looked for: to Python True is equal to 1.
        return is_limit(x) and x in self._plain

    def lean(self):
        """A new Limit of a lean limit, with the same caps."""
        return Limit(lean_limit(self._form, self._caps), caps=self._caps)
