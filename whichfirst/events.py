"""Events of a book: which values are such, when they are possible, and what they change.

A state is a triple of a site, a day, which is today, and bases. What stands
here of events behind is_event is said of events by kind.
"""

from whichfirst.duedays import least_late
from whichfirst.goingby import able_on, bases_done
from whichfirst.kinds import do_rise, is_limit, is_name, is_slack, is_task, is_use
from whichfirst.sameness import are_same
from whichfirst.sitechanges import with_limit, with_stay, with_task, with_uses, without_task
from whichfirst.siteparts import has_row, index_in, place_in, row_in, use_in

# How many elements the tuple of an event has.
EVENT_SIZES = {"pass": 2, "done": 2, "anew": 2, "move": 3, "expect": 3, "task": 2, "drop": 2, "limit": 4}


def are_names(thing):
    """Whether any value is a nonempty set of names."""
    return isinstance(thing, tuple) and len(thing) > 0 and all([is_name(name) for name in thing]) and do_rise(thing)


def are_uses_or_none(thing):
    """Whether any value is a tuple of uses, possibly empty."""
    return isinstance(thing, tuple) and all([is_use(use) for use in thing])


def has_kind(word, rest):
    """Whether these values, as many as they should be, can stand behind the word of an event."""
    if word == "pass":
        return are_uses_or_none(rest[0])
    if word in ("done", "anew"):
        return are_names(rest[0])
    if word == "task":
        return is_task(rest[0])
    if not is_name(rest[0]):
        return False
    if word == "move":
        return rest[1] is None or is_name(rest[1])
    if word == "expect":
        return is_use(rest[1])
    return word == "drop" or (is_limit(rest[1]) and is_slack(rest[2]))


def is_event(thing):
    """Whether any value is an event by kind."""
    if not isinstance(thing, tuple) or len(thing) == 0 or not isinstance(thing[0], str):
        return False
    word = thing[0]
    return word in EVENT_SIZES and len(thing) == EVENT_SIZES[word] and has_kind(word, thing[1:])


def reason_against_done(state, names):
    """Why tasks cannot be done today as at a visit; None if they can."""
    site, day, bases = state
    if not all([has_row(site[2], name) for name in names]):
        return "task"
    # A fresh task can be done on each day.
    able = able_on(site, bases, day)
    return None if all([name in able for name in names]) else "window"


def reason_against_anew(state, names):
    """Why tasks cannot be done today outside of their windows; None if they can."""
    site, day, bases = state
    if not all([has_row(site[2], name) for name in names]):
        return "task"
    if any([row_in(site[2], name)[2] == "fresh" for name in names]):
        return "fresh"
    able = able_on(site, bases, day)
    if any([name in able for name in names]):
        return "window"
    is_behind = all([day > bases[index_in(site[2], name)] for name in names])
    return None if is_behind else "base"


def reason_against_move(state, part, place):
    """Why a part cannot be moved to a place today; None if it can."""
    site, day, _ = state
    if not has_row(site[1], part):
        return "part"
    if place is not None and not has_row(site[0], place):
        return "place"
    stays = row_in(site[1], part)[1]
    places = [place_in(stays, day)] + [other for start, other in stays if start > day]
    return "same" if all([other == place for other in places]) else None


def reason_against_expect(state, machine, use):
    """Why this use of a machine cannot be expected from today on; None if it can."""
    site, day, _ = state
    if not has_row(site[0], machine):
        return "machine"
    uses = row_in(site[0], machine)[1]
    expected = (use_in(uses, day),) + uses[day + 1:]
    return "same" if all([other == use for other in expected]) else None


def reason_against_task(state, task, most):
    """Why there cannot be a task more, with so many at most; None if there can."""
    site = state[0]
    if len(site[2]) >= most:
        return "many"
    if has_row(site[2], task[0]):
        return "name"
    return None if has_row(site[1], task[1]) else "part"


def reason_against_limit(state, name, limit, slack):
    """Why a task cannot have this limit and slack; None if it can."""
    site = state[0]
    if not has_row(site[2], name):
        return "task"
    task = row_in(site[2], name)
    return "same" if are_same(task[3], limit) and task[4] == slack else None


def reason_against(state, event, most):
    """Why an event is not possible in a state, with so many tasks at most; None if it is."""
    word = event[0]
    if word == "pass":
        return None if len(event[1]) == len(state[0][0]) else "uses"
    if word == "done":
        return reason_against_done(state, event[1])
    if word == "anew":
        return reason_against_anew(state, event[1])
    if word == "move":
        return reason_against_move(state, event[1], event[2])
    if word == "expect":
        return reason_against_expect(state, event[1], event[2])
    if word == "task":
        return reason_against_task(state, event[1], most)
    if word == "drop":
        return None if has_row(state[0][2], event[1]) else "task"
    return reason_against_limit(state, event[1], event[2], event[3])


def uses_told(uses, day, use):
    """The uses of a machine behind a day that is over and had this use."""
    many = max(len(uses), day + 2)
    return tuple([use if k == day else use_in(uses, k) for k in range(many)])


def uses_expected(uses, day, use):
    """The uses of a machine for which this use is expected from a day on."""
    return tuple([use_in(uses, k) for k in range(day)] + [use])


def behind_pass(state, told):
    """The state behind a day with these uses."""
    site, day, bases = state
    rows = list(zip(site[0], told))
    machines = tuple([(machine[0], uses_told(machine[1], day, use)) for machine, use in rows])
    return ((machines, site[1], site[2]), day + 1, bases)


def behind_anew(state, names):
    """The state in which kept tasks begin anew today."""
    site, day, bases = state
    rows = list(zip(site[2], bases))
    return (site, day, tuple([day if task[0] in names else base for task, base in rows]))


def behind_task(state, task):
    """The state with a task more, whose base is today."""
    site, day, bases = state
    more = with_task(site, task)
    k = index_in(more[2], task[0])
    return (more, day, bases[:k] + (day,) + bases[k:])


def behind_drop(state, name):
    """The state with a task less."""
    site, day, bases = state
    k = index_in(site[2], name)
    return (without_task(site, name), day, bases[:k] + bases[k + 1:])


def state_behind(state, event):
    """The state behind an event that is possible."""
    site, day, bases = state
    word = event[0]
    if word == "pass":
        return behind_pass(state, event[1])
    if word == "done":
        return (site, day, bases_done(site, bases, day, event[1]))
    if word == "anew":
        return behind_anew(state, event[1])
    if word == "move":
        return (with_stay(site, event[1], day, event[2]), day, bases)
    if word == "expect":
        uses = uses_expected(row_in(site[0], event[1])[1], day, event[2])
        return (with_uses(site, event[1], uses), day, bases)
    if word == "task":
        return behind_task(state, event[1])
    if word == "drop":
        return behind_drop(state, event[1])
    return (with_limit(site, event[1], event[2], event[3]), day, bases)


def answer_in(state):
    """The answer to the event that led to a state: the first late day."""
    return least_late(state[0], state[2])[0]
