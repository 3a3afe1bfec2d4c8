"""A book as the document defines it, with the use and the place of each day written out."""

import days
from whichfirst.kinds import is_limit, is_name, is_slack, is_task, is_use

# No book of the tests comes to this day.
FAR = 160
SIZES = {'pass': 2, 'done': 2, 'anew': 2, 'move': 3, 'expect': 3, 'task': 2, 'drop': 2, 'limit': 4}


def is_by_kind(event):
    if not isinstance(event, tuple) or not event or not isinstance(event[0], str) or SIZES.get(event[0]) != len(event):
        return False
    word, *rest = event
    if word == 'pass':
        return isinstance(rest[0], tuple) and all(map(is_use, rest[0]))
    if word in ('done', 'anew'):
        names = rest[0]
        if not isinstance(names, tuple) or not names or not all(map(is_name, names)):
            return False
        return list(names) == sorted(set(names))
    return {
        'move': lambda part, place: is_name(part) and (place is None or is_name(place)),
        'expect': lambda machine, use: is_name(machine) and is_use(use),
        'task': is_task,
        'drop': is_name,
        'limit': lambda name, limit, slack: is_name(name) and is_limit(limit) and is_slack(slack),
    }[word](*rest)


class PlainBook:
    def __init__(self, site):
        self.today = 0
        self.uses = {machine: [uses[min(day, len(uses) - 1)] for day in range(FAR)] for machine, uses in site[0]}
        self.many = {machine: len(uses) for machine, uses in site[0]}
        self.stays = {part: list(stays) for part, stays in site[1]}
        self.tasks = {task[0]: task for task in site[2]}
        self.bases = {name: 0 for name in self.tasks}
        self.events = []

    def site(self):
        machines = tuple((machine, tuple(self.uses[machine][:many])) for machine, many in sorted(self.many.items()))
        parts = tuple((part, tuple(stays)) for part, stays in sorted(self.stays.items()))
        return (machines, parts, tuple(task for _, task in sorted(self.tasks.items())))

    def bases_in_order(self):
        return tuple(base for _, base in sorted(self.bases.items()))

    def state(self):
        return (self.site(), self.today, self.bases_in_order())

    def days_of(self, name):
        return days.early_due_late(self.site(), self.tasks[name], self.bases[name])

    def is_able(self, name):
        task = self.tasks[name]
        return task[2] == 'fresh' or days.lies_in(self.site(), task, self.bases[name], self.today)

    def missed(self):
        late = [(name, self.days_of(name)[2]) for name in sorted(self.tasks)]
        return tuple((name, day) for name, day in late if day is not None and day < self.today)

    def first_late(self):
        late = [self.days_of(name)[2] for name in self.tasks]
        return min([day for day in late if day is not None], default=None)

    def place(self, part, day):
        return days.place(self.stays[part], day)

    def reason(self, event, most=40):
        if not is_by_kind(event):
            return 'shape'
        if len(self.events) >= most:
            return 'full'
        return getattr(self, 'reason_' + event[0])(*event[1:])

    def reason_pass(self, uses):
        return None if len(uses) == len(self.uses) else 'uses'

    def reason_done(self, names):
        if any(name not in self.tasks for name in names):
            return 'task'
        return None if all(map(self.is_able, names)) else 'window'

    def reason_anew(self, names):
        if any(name not in self.tasks for name in names):
            return 'task'
        if any(self.tasks[name][2] == 'fresh' for name in names):
            return 'fresh'
        if any(map(self.is_able, names)):
            return 'window'
        return 'base' if any(self.today <= self.bases[name] for name in names) else None

    def reason_move(self, part, place):
        if part not in self.stays:
            return 'part'
        if place is not None and place not in self.uses:
            return 'place'
        return 'same' if {self.place(part, day) for day in range(self.today, FAR)} == {place} else None

    def reason_expect(self, machine, use):
        if machine not in self.uses:
            return 'machine'
        return 'same' if set(self.uses[machine][self.today:]) == {use} else None

    def reason_task(self, task):
        if len(self.tasks) >= 4:
            return 'many'
        if task[0] in self.tasks:
            return 'name'
        return None if task[1] in self.stays else 'part'

    def reason_drop(self, name):
        return None if name in self.tasks else 'task'

    def reason_limit(self, name, limit, slack):
        if name not in self.tasks:
            return 'task'
        return 'same' if self.tasks[name][3:] == (limit, slack) else None

    def apply(self, event):
        assert self.reason(event) is None
        getattr(self, 'apply_' + event[0])(*event[1:])
        self.events.append(event)

    def apply_pass(self, uses):
        for machine, use in zip(sorted(self.uses), uses):
            self.uses[machine][self.today] = use
            self.many[machine] = max(self.many[machine], self.today + 2)
        self.today += 1

    def apply_done(self, names):
        site = self.site()
        for name in names:
            self.bases[name] = days.doings(site, self.tasks[name], self.bases[name], self.today)[-1][1]

    def apply_anew(self, names):
        for name in names:
            self.bases[name] = self.today

    def apply_move(self, part, place):
        self.stays[part] = [stay for stay in self.stays[part] if stay[0] < self.today] + [(self.today, place)]

    def apply_expect(self, machine, use):
        self.uses[machine][self.today:] = [use] * (FAR - self.today)
        self.many[machine] = self.today + 1

    def apply_task(self, task):
        self.tasks[task[0]] = task
        self.bases[task[0]] = self.today

    def apply_drop(self, name):
        del self.tasks[name], self.bases[name]

    def apply_limit(self, name, limit, slack):
        self.tasks[name] = self.tasks[name][:3] + (limit, slack)


def random_event(random, book):
    """An event by kind, possible or not, for a PlainBook."""
    names = sorted(book.tasks) + ['nobody']
    machines, parts = sorted(book.uses) + ['nothing'], sorted(book.stays) + ['none']
    word = random.choice(('pass',) * 6 + ('done',) * 4 + ('anew', 'anew', 'move', 'expect', 'task', 'drop', 'limit'))
    if word == 'pass':
        if random.random() < 0.5:
            return (word, tuple(book.uses[machine][book.today] for machine in sorted(book.uses)))
        return (word, tuple(days.random_use(random) for _ in range(len(book.uses) + (random.random() < 0.05))))
    if word in ('done', 'anew'):
        able = [name for name in names[:-1] if book.is_able(name)]
        if word == 'done' and able and random.random() < 0.7:
            return (word, tuple(able))
        return (word, tuple(sorted(random.sample(names, random.randint(1, min(2, len(names)))))))
    if word == 'move':
        return (word, random.choice(parts), random.choice(machines + [None]))
    if word == 'expect':
        return (word, random.choice(machines), days.random_use(random))
    if word == 'task':
        limit, slack = days.random_limit(random), random.choice(((0, 0, 0), (1, 2, 1), (0, 0, 9)))
        return (word, (random.choice(('a', 'e', 'f')), random.choice(parts), random.choice(('fresh', 'kept')), limit, slack))
    if word == 'drop':
        return (word, random.choice(names))
    return (word, random.choice(names), days.random_limit(random, 1), (0, random.choice((0, 1)), 1))


def random_log(random, site, many):
    """A PlainBook of a site behind so many events that were possible, or fewer."""
    book = PlainBook(site)
    for _ in range(many):
        event = random_event(random, book)
        if book.reason(event) is None:
            book.apply(event)
    return book
