"""Of what kind a value is. Each function accepts any value and returns True or False."""

COUNT_WORDS = ("hours", "cycles", "days")
JOIN_WORDS = ("first", "later")
WAYS = ("fresh", "kept")


def is_integer(thing):
    """Whether it is an int, and no bool."""
    return isinstance(thing, int) and not isinstance(thing, bool)


def is_number(thing):
    """Whether it is an integer from 0 on."""
    return is_integer(thing) and thing >= 0


def is_above_zero(thing):
    """Whether it is an integer from 1 on."""
    return is_integer(thing) and thing > 0


def is_name(thing):
    """Whether it is a string of one to eight lowercase letters."""
    return isinstance(thing, str) and 1 <= len(thing) <= 8 and all(["a" <= letter <= "z" for letter in thing])


def is_one_of(thing, words):
    """Whether it is one of these strings."""
    return isinstance(thing, str) and thing in words


def is_tuple_of(thing, many):
    """Whether it is a tuple with so many elements."""
    return isinstance(thing, tuple) and len(thing) == many


def are_pairs(thing):
    """Whether it is a tuple of pairs, whatever these hold."""
    return isinstance(thing, tuple) and all([is_tuple_of(row, 2) for row in thing])


def are_numbers(thing, many):
    """Whether it is a tuple of so many numbers."""
    return is_tuple_of(thing, many) and all([is_number(number) for number in thing])


def do_rise(rows):
    """Whether each element of a list or tuple, all of one kind, is greater than the one before."""
    return all([before < behind for before, behind in zip(rows, rows[1:])])


def are_days(thing):
    """Whether it is a set of days: a tuple of numbers, ascending."""
    return isinstance(thing, tuple) and all([is_number(day) for day in thing]) and do_rise(thing)


def is_counts(thing):
    """Whether it is a triple of numbers: hours, cycles, days."""
    return are_numbers(thing, 3)


def is_use(thing):
    """Whether it is a pair of numbers: the hours and cycles of a day."""
    return are_numbers(thing, 2)


def is_slack(thing):
    """Whether it is a triple of numbers, like counts."""
    return are_numbers(thing, 3)


def is_limit(thing):
    """Whether it is a limit, with all that is in it."""
    # The parts wait in a list, so that no depth of nesting is too great.
    waiting = [thing]
    while len(waiting) > 0:
        part = waiting.pop()
        if not is_tuple_of(part, 2):
            return False
        word, rest = part
        if is_one_of(word, COUNT_WORDS):
            if not is_above_zero(rest):
                return False
        elif is_one_of(word, JOIN_WORDS) and isinstance(rest, tuple) and len(rest) > 0:
            waiting.extend(rest)
        else:
            return False
    return True


def is_uses(thing):
    """Whether it is a nonempty tuple of uses."""
    return isinstance(thing, tuple) and len(thing) > 0 and all([is_use(use) for use in thing])


def is_machine(thing):
    """Whether it is a pair of a name and uses."""
    return is_tuple_of(thing, 2) and is_name(thing[0]) and is_uses(thing[1])


def is_machines(thing):
    """Whether it is a tuple of machines, ascending, with different names."""
    if not isinstance(thing, tuple) or not all([is_machine(row) for row in thing]):
        return False
    return do_rise([row[0] for row in thing])


def is_stay(thing):
    """Whether it is a pair of a day and a place, with any name as place."""
    return is_tuple_of(thing, 2) and is_number(thing[0]) and (thing[1] is None or is_name(thing[1]))


def is_stays(thing):
    """Whether it is a nonempty tuple of stays from day 0 on, with any names as places."""
    if not isinstance(thing, tuple) or len(thing) == 0 or not all([is_stay(stay) for stay in thing]):
        return False
    return thing[0][0] == 0 and do_rise([stay[0] for stay in thing])


def is_way(thing):
    """Whether it is one of the two ways of tasks."""
    return is_one_of(thing, WAYS)


def is_task(thing):
    """Whether it is a task, of any part."""
    if not is_tuple_of(thing, 5):
        return False
    task, part, way, limit, slack = thing
    return is_name(task) and is_name(part) and is_way(way) and is_limit(limit) and is_slack(slack)
