"""Visits that go by: what is done at them, what is missed, and the bases behind them."""

from whichfirst.duedays import days_for, lies_in, window_in
from whichfirst.errors import NotUsable
from whichfirst.kinds import are_numbers, is_number
from whichfirst.needs import need


def are_bases(site, thing):
    """Whether any value is bases of the site."""
    return are_numbers(thing, len(site[2]))


def need_days(days):
    """Raises NotUsable for what is no set of days."""
    need(isinstance(days, tuple), "days")
    for k, day in enumerate(days):
        if not is_number(day) or (k > 0 and day <= days[k - 1]):
            raise NotUsable("days", k)


def doings_of(site, task, base, day):
    """The list of the pairs (before, behind) of the bases of a task that is done at a visit; empty if it is not."""
    if task[2] == "fresh":
        return [(base, day)]
    doings = []
    before = base
    days = days_for(site, task, before)
    while lies_in(day, window_in(before, days)):
        behind = days[1]
        doings.append((before, behind))
        if behind == before:
            break
        before = behind
        days = days_for(site, task, before)
    return doings


def base_behind(site, task, base, day):
    """The base of a task behind a visit."""
    doings = doings_of(site, task, base, day)
    return doings[-1][1] if len(doings) > 0 else base


def bases_behind(site, bases, day):
    """The bases of all tasks behind a visit."""
    return tuple([base_behind(site, task, base, day) for task, base in zip(site[2], bases)])


def bases_done(site, bases, day, names):
    """The bases of all tasks behind a visit at which these alone are done."""
    rows = list(zip(site[2], bases, bases_behind(site, bases, day)))
    return tuple([behind if task[0] in names else base for task, base, behind in rows])


def able_on(site, bases, day):
    """The set of the tasks that can be done on a day with these bases."""
    rows = [(task[0], doings_of(site, task, base, day)) for task, base in zip(site[2], bases)]
    return tuple([name for name, doings in rows if len(doings) > 0])


def missed_ahead(site, bases, day):
    """The list of the pairs (task, late day) of the tasks whose late day, for these bases, is ahead of a day."""
    late_days = [(task[0], days_for(site, task, base)[2]) for task, base in zip(site[2], bases)]
    return [(name, late) for name, late in late_days if late is not None and late < day]


def missed_from(site, bases, days, upto):
    """The set of the pairs (task, late day) of all that is missed, from these bases on, by visits up to a day."""
    behind = bases
    missed = []
    for day in days:
        missed.extend(missed_ahead(site, behind, day))
        behind = bases_behind(site, behind, day)
    missed.extend(missed_ahead(site, behind, upto))
    return tuple(sorted(set(missed)))


def first_bases(site):
    """The bases at first."""
    return (0,) * len(site[2])


def done_on(site, bases, day):
    """The set of the tasks that are done at a visit on this day with these bases."""
    need(are_bases(site, bases), "bases")
    need(is_number(day), "day")
    return able_on(site, bases, day)


def bases_after(site, bases, days):
    """The bases behind visits on these days, one after the other."""
    need(are_bases(site, bases), "bases")
    need_days(days)
    behind = bases
    for day in days:
        behind = bases_behind(site, behind, day)
    return behind


def missed_by(site, days, upto):
    """The set of the pairs (task, late day) of all that is missed by visits on these days up to a day."""
    need_days(days)
    need(is_number(upto), "upto")
    return missed_from(site, first_bases(site), days, upto)


def are_kept(site, days, upto):
    """Whether visits on these days keep the site up to a day."""
    need_days(days)
    need(is_number(upto), "upto")
    return all([day <= upto for day in days]) and len(missed_from(site, first_bases(site), days, upto)) == 0


def story_of(site, days):
    """The tuple of the rows (day, task, before, behind) of all that is done at visits on these days."""
    need_days(days)
    bases = first_bases(site)
    rows = []
    for day in days:
        for task, base in zip(site[2], bases):
            rows.extend([(day, task[0], before, behind) for before, behind in doings_of(site, task, base, day)])
        bases = bases_behind(site, bases, day)
    return tuple(rows)
