"""What stands in a site: where its parts are, how its machines run, whose its tasks are."""

from whichfirst.kinds import is_number
from whichfirst.needs import need


def index_in(rows, name):
    """The index of the row that begins with a name, which is any value; None if no row does."""
    for k, row in enumerate(rows):
        if row[0] == name:
            return k
    return None


def has_row(rows, name):
    """Whether any value is the name with which a row begins."""
    return index_in(rows, name) is not None


def row_in(rows, name):
    """The row that begins with a name of one."""
    return rows[index_in(rows, name)]


def is_kept(site, name):
    """Whether any value is the name of a kept task of a site."""
    return has_row(site[2], name) and row_in(site[2], name)[2] == "kept"


def place_in(stays, day):
    """The place of the last stay that begins on this day or before."""
    places = [place for start, place in stays if start <= day]
    return places[-1]


def use_in(uses, day):
    """The use on a day: behind the last one that of the last one."""
    return uses[day] if day < len(uses) else uses[-1]


def place_of(site, part, day):
    """Where a part is on a day: a machine, or None for the shelf."""
    need(has_row(site[1], part), "part")
    need(is_number(day), "day")
    return place_in(row_in(site[1], part)[1], day)


def use_of(site, machine, day):
    """The use of a machine on a day."""
    need(has_row(site[0], machine), "machine")
    need(is_number(day), "day")
    return use_in(row_in(site[0], machine)[1], day)


def parts_at(site, place, day):
    """The set of the parts at a machine, or on the shelf (None), on a day."""
    need(place is None or has_row(site[0], place), "place")
    need(is_number(day), "day")
    return tuple([part for part, stays in site[1] if place_in(stays, day) == place])


def tasks_of(site, part):
    """The set of the names of the tasks of a part."""
    need(has_row(site[1], part), "part")
    return tuple([task[0] for task in site[2] if task[1] == part])


def part_of(site, name):
    """The part of a task."""
    need(has_row(site[2], name), "task")
    return row_in(site[2], name)[1]


def number_of(site, name):
    """The index of a task among the tasks."""
    need(has_row(site[2], name), "task")
    return index_in(site[2], name)
