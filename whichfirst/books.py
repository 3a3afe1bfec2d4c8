"""A live book: what a site needs while days pass, events come, and plans change."""

from whichfirst.duedays import days_for
from whichfirst.errors import InvalidEvent, NothingToUndo
from whichfirst.events import answer_in, is_event, reason_against, state_behind
from whichfirst.eventtexts import event_line
from whichfirst.exchanges import best_exchange
from whichfirst.goingby import able_on, first_bases, missed_ahead, missed_from
from whichfirst.kinds import are_days, is_number
from whichfirst.needs import need
from whichfirst.planning import greedy_row
from whichfirst.sameness import are_same
from whichfirst.sitechecker import lets_site
from whichfirst.siteparts import has_row, index_in, row_in


def day_text(day):
    """A day as it stands in a table."""
    return "-" if day is None else str(day)


def table_row(name, base, days, word):
    """The row of a table for a task with these early, due and late days."""
    return f"{name:<8} {base:>3} {day_text(days[1]):>3} {day_text(days[2]):>3} {word}"


def log_of(states, events):
    """The log of a book with these states, the first one ahead of all events, and these events."""
    return (("book", states[0][0]),) + tuple(events)


class Book:
    """A site, a day and a base for each task, as events leave them. It changes by its events and undo alone."""

    MOST = 40
    TASKS = 4

    def __init__(self, site):
        lets_site(site)
        need(len(site[2]) <= Book.TASKS, "many")
        self._events = []
        # The state of the beginning, and that behind each event.
        self._states = [(site, 0, first_bases(site))]
        self._names = [task[0] for task in site[2]]
        self._started = 0
        self._finished = 0

    @property
    def site_now(self):
        """The site, as it is known and expected."""
        return self._states[-1][0]

    @property
    def day_now(self):
        """Today."""
        return self._states[-1][1]

    @property
    def bases_now(self):
        """The bases of the tasks."""
        return self._states[-1][2]

    def _reason(self, state, many, event):
        """Why any value is not possible as an event in a state, behind so many events; None if it is."""
        if not is_event(event):
            return "shape"
        if many >= Book.MOST:
            return "full"
        return reason_against(state, event, Book.TASKS)

    def _states_behind(self, events):
        """The list of the states behind each of these events, one after the other."""
        states = []
        state = self._states[-1]
        for k, event in enumerate(events):
            reason = self._reason(state, len(self._events) + k, event)
            if reason is not None:
                raise InvalidEvent(event, reason)
            state = state_behind(state, event)
            states.append(state)
        return states

    def _put(self, events, states):
        """Gives it these events and states."""
        self._events = events
        self._states = states
        self._names = [task[0] for task in states[-1][0][2]]

    def follow(self, events):
        """Applies events in order, or none of them if one is not possible, and counts nothing."""
        states = self._states_behind(events)
        self._put(self._events + list(events), self._states + states)

    def go(self, event):
        """Applies an event, and returns the first late day then."""
        self._started = self._started + 1
        try:
            self.follow([event])
        finally:
            self._finished = self._started
        return answer_in(self._states[-1])

    def __call__(self, event):
        return self.go(event)

    def passed(self, uses):
        """Today is over: this was the use of each machine."""
        return self.go(("pass", uses))

    def visit(self, *names):
        """These tasks are done today."""
        return self.go(("done", names))

    def renew(self, *names):
        """These kept tasks are done today outside of their windows."""
        return self.go(("anew", names))

    def move(self, part, place):
        """A part is at a place from today on."""
        return self.go(("move", part, place))

    def expect(self, machine, use):
        """A machine has this use from today on."""
        return self.go(("expect", machine, use))

    def add_task(self, task):
        """There is a task more."""
        return self.go(("task", task))

    def drop_task(self, name):
        """There is a task less."""
        return self.go(("drop", name))

    def set_limit(self, name, limit, slack):
        """A task has another limit and slack."""
        return self.go(("limit", name, limit, slack))

    def do_all(self, *events, keep=False):
        """Applies events in order, and returns how many. After an error those ahead of it stay just if keep is True."""
        self._started = self._started + 1
        try:
            if keep is True:
                for event in events:
                    self.follow([event])
            else:
                self.follow(events)
        finally:
            self._finished = self._started
        return len(events)

    def undo(self):
        """Takes back the last event, and returns it."""
        self._started = self._started + 1
        try:
            if len(self._events) == 0:
                raise NothingToUndo(0)
            event = self._events[-1]
            self._put(self._events[:-1], self._states[:-1])
        finally:
            self._finished = self._started
        return event

    def tried(self, *events):
        """The triple (site, day, bases) behind these events. Nothing changes."""
        return ([self._states[-1]] + self._states_behind(events))[-1]

    def tally(self):
        """How many operations have started, and how many have finished."""
        return (self._started, self._finished)

    def log(self):
        """The site of the beginning, and the events."""
        return log_of(self._states, self._events)

    def __getitem__(self, at):
        site, _, bases = self._states[-1]
        need(has_row(site[2], at), "task")
        return bases[index_in(site[2], at)]

    def __contains__(self, x):
        return has_row(self.site_now[2], x)

    def __iter__(self):
        return iter(self._names)

    def __len__(self):
        return len(self._events)

    def __eq__(self, other):
        if not isinstance(other, Book):
            return False
        return are_same(log_of(self._states, self._events), log_of(other._states, other._events))

    def __str__(self):
        if len(self._events) == 0:
            return "-"
        return " / ".join([event_line(event) for event in self._events])

    def table(self):
        """A list with a row for each task: its name, base, due day and late day, and how it stands."""
        site, day, bases = self._states[-1]
        missed = [name for name, _ in self.missed_now()]
        able = self.can_do()
        rows = []
        for task, base in zip(site[2], bases):
            word = "can" if task[0] in able else "wait"
            if task[0] in missed:
                word = "missed"
            rows.append(table_row(task[0], base, days_for(site, task, base), word))
        return rows

    def barred(self, event):
        """Why any value is not possible as an event; None if it is."""
        return self._reason(self._states[-1], len(self._events), event)

    def can_do(self):
        """The set of the tasks that can be done today."""
        site, day, bases = self._states[-1]
        return able_on(site, bases, day)

    def missed_now(self):
        """The set of the pairs (task, late day) of the tasks that are missed."""
        site, day, bases = self._states[-1]
        return tuple(missed_ahead(site, bases, day))

    def days_of(self, name):
        """The triple of the early, due and late day of a task."""
        site, _, bases = self._states[-1]
        need(has_row(site[2], name), "task")
        return days_for(site, row_in(site[2], name), bases[index_in(site[2], name)])

    def visits_now(self, upto):
        """The fewest visits from today on up to a day by which no task is missed."""
        site, day, bases = self._states[-1]
        need(is_number(upto) and upto >= day, "upto")
        row, _ = greedy_row(site, bases, day - 1, upto)
        return tuple([visit for visit, _ in row])

    def keeps_now(self, days, upto):
        """Whether any value is a set of days, from today up to a day, by which as visits no task is missed."""
        site, day, bases = self._states[-1]
        need(is_number(upto) and upto >= day, "upto")
        if not are_days(days) or not all([day <= visit <= upto for visit in days]):
            return False
        return len(missed_from(site, bases, days, upto)) == 0

    def exchange_now(self):
        """The best exchange of two parts today."""
        site, day, bases = self._states[-1]
        return best_exchange(site, bases, day)
