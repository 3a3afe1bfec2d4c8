"""Lines that are read word by word.

What a word writes is told by a function for its place, which returns None if the word cannot stand there.
"""

from whichfirst.errors import InvalidText
from whichfirst.events import are_names
from whichfirst.kinds import COUNT_WORDS, JOIN_WORDS, is_above_zero, is_name, is_one_of, is_stays, is_way

DIGITS = "0123456789"
MOST_DIGITS = 60
# How many first and later can stand within one another.
MOST_JOINS = 30


def number_from(word):
    """The number that a word writes."""
    is_plain = 1 <= len(word) <= MOST_DIGITS and all([letter in DIGITS for letter in word])
    if not is_plain or (len(word) > 1 and word[0] == "0"):
        return None
    return int(word)


def name_from(word):
    """The name that a word writes."""
    return word if is_name(word) else None


def way_from(word):
    """The way of a task that a word writes."""
    return word if is_way(word) else None


def names_from(word):
    """The nonempty set of names that a word writes."""
    names = tuple(word.split(","))
    return names if are_names(names) else None


def place_from(word):
    """The word of a place as it is: what - writes is None, which is said of words that cannot stand."""
    return word if word == "-" or is_name(word) else None


def place_of_word(word):
    """The place that its word writes: a machine, or None for the shelf."""
    return None if word == "-" else word


def numbers_from(word, many):
    """The tuple of so many numbers that a word writes."""
    numbers = tuple([number_from(part) for part in word.split(":")])
    return None if len(numbers) != many or None in numbers else numbers


def use_from(word):
    """The use that a word writes."""
    return numbers_from(word, 2)


def slack_from(word):
    """The slack that a word writes."""
    return numbers_from(word, 3)


def uses_from(word):
    """The uses of a machine that a word writes."""
    uses = tuple([use_from(part) for part in word.split(",")])
    return None if None in uses else uses


def stay_from(part):
    """The day and the place that a part of a word writes: None for what is no day, what is no place as it is."""
    day, _, place = part.partition(":")
    return (number_from(day), place_of_word(place))


def stays_from(word):
    """The stays of a part that a word writes."""
    stays = tuple([stay_from(part) for part in word.split(",")])
    return stays if is_stays(stays) else None


def plain_at(word, start):
    """The plain limit that is written in a word from an index on, and the index behind it; None if there is none."""
    end = start
    while end < len(word) and word[end] not in ",)":
        end = end + 1
    kind, _, digits = word[start:end].partition(":")
    number = number_from(digits)
    if not is_one_of(kind, COUNT_WORDS) or not is_above_zero(number):
        return None
    return ((kind, number), end)


def limit_at(word, start, depth):
    """The limit that is written in a word from an index on, within so many joins, and the index behind it; or None."""
    join = word[start:start + 5]
    end = start + 5
    if join not in JOIN_WORDS or word[end:end + 1] != "(":
        return plain_at(word, start)
    if depth == MOST_JOINS:
        return None
    limits = []
    goes_on = True
    while goes_on:
        found = limit_at(word, end + 1, depth + 1)
        if found is None:
            return None
        limits.append(found[0])
        end = found[1]
        goes_on = word[end:end + 1] == ","
    return ((join, tuple(limits)), end + 1) if word[end:end + 1] == ")" else None


def limit_from(word):
    """The limit that a word writes."""
    found = limit_at(word, 0, 0)
    return None if found is None or found[1] != len(word) else found[0]


# What stands behind the first word of a line; for "pass" it is as many uses as there are words.
READERS = {
    "machine": (name_from, uses_from),
    "part": (name_from, stays_from),
    "task": (name_from, name_from, way_from, limit_from, slack_from),
    "done": (names_from,),
    "anew": (names_from,),
    "move": (name_from, place_from),
    "expect": (name_from, use_from),
    "drop": (name_from,),
    "limit": (name_from, limit_from, slack_from),
    "book": (number_from,),
}


def words_read(words, readers, line, field):
    """The list of what words write, by a reader for each; InvalidText for the first that cannot stand or is missing."""
    values = []
    for k, reader in enumerate(readers):
        value = reader(words[k]) if k < len(words) else None
        if value is None:
            raise InvalidText(line, field + k)
        values.append(value)
    if len(words) > len(readers):
        raise InvalidText(line, field + len(readers))
    return values


def line_read(text, kinds, line, field):
    """The list of the first word of a line, which is one of kinds, and of what its other words write."""
    words = text.split(" ")
    kind = words[0]
    if kind not in kinds:
        raise InvalidText(line, field)
    readers = (use_from,) * (len(words) - 1) if kind == "pass" else READERS[kind]
    return [kind] + words_read(words[1:], readers, line, field + 1)
