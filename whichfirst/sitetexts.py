"""Limits, tasks and sites written as texts."""

from whichfirst.kinds import COUNT_WORDS
from whichfirst.limitparts import limits_in


def place_text(place):
    """The word of a place, - for the shelf."""
    return "-" if place is None else place


def numbers_text(numbers):
    """The word of a use or of a slack."""
    return ":".join([str(number) for number in numbers])


def uses_text(uses):
    """The word of the uses of a machine."""
    return ",".join([numbers_text(use) for use in uses])


def stays_text(stays):
    """The word of the stays of a part."""
    return ",".join([f"{day}:{place_text(place)}" for day, place in stays])


def limit_text(limit):
    """The word of a limit."""
    # Backwards all parts of a limit come ahead of it, the first one last.
    built = []
    for word, rest in limits_in(limit)[::-1]:
        if word in COUNT_WORDS:
            built.append(f"{word}:{rest}")
        else:
            parts = []
            for _ in rest:
                parts.append(built.pop())
            inner = ",".join(parts)
            built.append(f"{word}({inner})")
    return built[0]


def task_text(task):
    """The line of a task."""
    name, part, way, limit, slack = task
    return f"task {name} {part} {way} {limit_text(limit)} {numbers_text(slack)}"


def site_lines(site):
    """The list of the lines of a site; none for the site without anything."""
    machines, parts, tasks = site
    lines = [f"machine {name} {uses_text(uses)}" for name, uses in machines]
    lines.extend([f"part {name} {stays_text(stays)}" for name, stays in parts])
    lines.extend([task_text(task) for task in tasks])
    return lines


def site_text(site):
    """The lines of a site, with newlines between."""
    return "\n".join(site_lines(site))
