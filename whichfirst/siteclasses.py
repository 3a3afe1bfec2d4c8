"""Sites as values that are asked and changed by their signs."""

from whichfirst.errors import NotUsable
from whichfirst.kinds import is_limit, is_name, is_number, is_tuple_of, is_use
from whichfirst.needs import need
from whichfirst.sameness import are_same
from whichfirst.sitechanges import exchanged, with_limit, with_stay, with_task, with_uses, with_way, without_task
from whichfirst.sitechecker import lets_site
from whichfirst.siteparts import has_row, place_in, place_of, row_in, use_in
from whichfirst.sitereadings import site_read
from whichfirst.sitetexts import site_lines


def are_named_limits(thing):
    """Whether any value is a tuple of pairs of different names and limits."""
    if not isinstance(thing, tuple) or not all([is_tuple_of(row, 2) and is_name(row[0]) for row in thing]):
        return False
    return len(set([row[0] for row in thing])) == len(thing) and all([is_limit(row[1]) for row in thing])


def in_name_order(rows):
    """The tuple of these rows, which have different names, in the order of their names."""
    return tuple([row_in(rows, name) for name in sorted(set([row[0] for row in rows]))])


class Site:
    """A site. It never changes."""

    def __init__(self, machines=(), parts=(), tasks=()):
        form = (machines, parts, tasks)
        lets_site(form)
        self._form = form
        self._names = tuple([task[0] for task in tasks])

    @property
    def machines(self):
        """The machines."""
        return self._form[0]

    @property
    def parts(self):
        """The parts."""
        return self._form[1]

    @property
    def tasks(self):
        """The tasks."""
        return self._form[2]

    @property
    def form(self):
        """The triple of machines, parts and tasks."""
        return self._form

    def __getitem__(self, at):
        need(has_row(self._form[2], at), "task")
        return row_in(self._form[2], at)

    def __contains__(self, x):
        return has_row(self._form[2], x)

    def __len__(self):
        return len(self._names)

    def __iter__(self):
        return iter(self._names)

    def __eq__(self, other):
        return isinstance(other, Site) and are_same(self._form, other._form)

    def __str__(self):
        return "\n".join(site_lines(self._form))

    def __call__(self, part, day):
        return place_of(self._form, part, day)

    def __add__(self, other):
        machines, parts, tasks = with_task(self._form, other)
        return Site(machines, parts, tasks)

    def __sub__(self, other):
        machines, parts, tasks = without_task(self._form, other)
        return Site(machines, parts, tasks)

    def moved(self, part, day, place):
        """The Site in which a part is at a place from a day on, for good."""
        machines, parts, tasks = with_stay(self._form, part, day, place)
        return Site(machines, parts, tasks)

    def swapped(self, part, other, day):
        """The Site in which each of two parts has the places of the other one from a day on."""
        machines, parts, tasks = exchanged(self._form, part, other, day)
        return Site(machines, parts, tasks)

    def limited(self, name, limit, slack):
        """The Site in which a task has this limit and slack."""
        machines, parts, tasks = with_limit(self._form, name, limit, slack)
        return Site(machines, parts, tasks)

    def turned(self, name, way):
        """The Site in which a task has this way."""
        machines, parts, tasks = with_way(self._form, name, way)
        return Site(machines, parts, tasks)

    def used(self, machine, uses):
        """The Site in which a machine has these uses."""
        machines, parts, tasks = with_uses(self._form, machine, uses)
        return Site(machines, parts, tasks)

    def stands(self, day):
        """Yields (part, place, use) of all parts on a day, use that of the place."""
        need(is_number(day), "day")
        for part, stays in self._form[1]:
            place = place_in(stays, day)
            yield (part, place, (0, 0) if place is None else use_in(row_in(self._form[0], place)[1], day))

    @classmethod
    def parsed(cls, text):
        """The Site that a string writes."""
        machines, parts, tasks = site_read(text)
        return cls(machines, parts, tasks)

    @staticmethod
    def plain(use, limits):
        """The Site of one machine with this use, one part on it, and a fresh task for each pair (name, limit)."""
        need(is_use(use), "use")
        need(are_named_limits(limits), "limits")
        tasks = [(name, "one", "fresh", limit, (0, 0, 0)) for name, limit in in_name_order(limits)]
        return Site((("one", (use,)),), (("one", ((0, "one"),)),), tuple(tasks))


class Shelved(Site):
    """A Site some of whose parts are on the shelf for ever."""

    def __init__(self, site, *names):
        for k, name in enumerate(names):
            if not has_row(site.parts, name):
                raise NotUsable("part", k)
        parts = [(part, ((0, None),) if part in names else stays) for part, stays in site.parts]
        super().__init__(site.machines, tuple(parts), site.tasks)
        self._source = site

    @property
    def source(self):
        """The Site of which it is made."""
        return self._source


class Renamed(Site):
    """A Site some of whose tasks have other names."""

    def __init__(self, site, **names):
        given = sorted(set(names))
        for name in given:
            if not has_row(site.tasks, name):
                raise NotUsable("task", name)
        for name in given:
            if not is_name(names[name]):
                raise NotUsable("name", name)
        tasks = [(names.get(task[0], task[0]),) + task[1:] for task in site.tasks]
        need(len(set([task[0] for task in tasks])) == len(tasks), "twice")
        super().__init__(site.machines, site.parts, in_name_order(tasks))
        self._source = site

    @property
    def source(self):
        """The Site of which it is made."""
        return self._source
