"""Events and logs written as lines."""

from whichfirst.sitetexts import limit_text, numbers_text, place_text, site_lines, task_text


def event_line(event):
    """The line of an event by kind."""
    word = event[0]
    if word == "pass":
        words = [numbers_text(use) for use in event[1]]
        return " ".join([word, *words])
    if word in ("done", "anew"):
        names = ",".join(event[1])
        return f"{word} {names}"
    if word == "move":
        return f"{word} {event[1]} {place_text(event[2])}"
    if word == "expect":
        return f"{word} {event[1]} {numbers_text(event[2])}"
    if word == "task":
        return task_text(event[1])
    if word == "drop":
        return f"{word} {event[1]}"
    return f"{word} {event[1]} {limit_text(event[2])} {numbers_text(event[3])}"


def log_lines(log):
    """The list of the lines of a log: those of its site, behind how many they are, then one for each event."""
    lines = site_lines(log[0][1])
    return [f"book {len(lines)}"] + lines + [event_line(event) for event in log[1:]]
