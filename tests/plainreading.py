"""Lines read in another way, by patterns: what they write, or the line and the word that cannot stand."""

import re

NUMBER = '(?:0|[1-9][0-9]{0,59})'
NAME = '[a-z]{1,8}'
USE = f'{NUMBER}:{NUMBER}'
NONE = object()


def whole(pattern, word):
    return re.fullmatch(pattern, word) is not None


def split_outside(text):
    """What stands between the commas of a text that are in no parentheses."""
    found, depth = [''], 0
    for letter in text:
        depth += (letter == '(') - (letter == ')')
        if letter == ',' and depth == 0:
            found.append('')
        else:
            found[-1] += letter
    return found


def limit(word, depth=0):
    plain = re.fullmatch('(hours|cycles|days):([1-9][0-9]{0,59})', word)
    if plain:
        return (plain[1], int(plain[2]))
    join = re.fullmatch(r'(first|later)\((.*)\)', word)
    if not join or depth == 30:
        return NONE
    parts = [limit(part, depth + 1) for part in split_outside(join[2])]
    return NONE if NONE in parts else (join[1], tuple(parts))


def name(word):
    return word if whole(NAME, word) else NONE


def names(word):
    told = word.split(',')
    return tuple(told) if all(whole(NAME, part) for part in told) and told == sorted(set(told)) else NONE


def use(word):
    return tuple(map(int, word.split(':'))) if whole(USE, word) else NONE


def uses(word):
    return tuple(use(part) for part in word.split(',')) if whole(f'{USE}(,{USE})*', word) else NONE


def stays(word):
    stay = f'{NUMBER}:(?:-|{NAME})'
    if not whole(f'{stay}(,{stay})*', word):
        return NONE
    told = tuple((int(day), None if place == '-' else place) for day, place in (part.split(':') for part in word.split(',')))
    days = [day for day, _ in told]
    return told if days[0] == 0 and days == sorted(set(days)) else NONE


def place(word):
    return None if word == '-' else name(word)


def slack(word):
    return tuple(map(int, word.split(':'))) if whole(f'{USE}:{NUMBER}', word) else NONE


def way(word):
    return word if word in ('fresh', 'kept') else NONE


def number(word):
    return int(word) if whole(NUMBER, word) else NONE


TASK = (name, name, way, limit, slack)
LINES = {
    'machine': (name, uses), 'part': (name, stays), 'task': TASK, 'done': (names,), 'anew': (names,), 'move': (name, place),
    'expect': (name, use), 'drop': (name,), 'limit': (name, limit, slack), 'book': (number,),
}
EVENTS = ('pass', 'done', 'anew', 'move', 'expect', 'task', 'drop', 'limit')


def line(text, kinds):
    """The values of a line; or the index, no tuple, of the word that cannot stand."""
    first, *words = text.split(' ')
    if first not in kinds:
        return 0
    readers = [use] * len(words) if first == 'pass' else LINES[first]
    values = [reader(word) for reader, word in zip(readers, words)]
    if NONE in values:
        return 1 + values.index(NONE)
    return 1 + min(len(words), len(readers)) if len(words) != len(readers) else (first,) + tuple(values)


def rows(lines, at):
    """The site that lines write, the first of index at; or the pair of a line and a word."""
    told = {'machine': (), 'part': (), 'task': ()}
    kinds = list(told)
    for k, text in enumerate(lines):
        values = line(text, kinds)
        if isinstance(values, int):
            return [at + k, values]
        kinds = kinds[kinds.index(values[0]):]
        told[values[0]] += (values[1:],)
    return tuple(told.values())


def event(text):
    values = line(text, EVENTS)
    if isinstance(values, int):
        return [0, values]
    if values[0] in ('pass', 'task'):
        return (values[0], values[1:])
    return values


def log(lines):
    values = line(lines[0], ['book']) if lines else 0
    if isinstance(values, int):
        return [0, values]
    many = values[1]
    site = rows(lines[1:many + 1], 1)
    if isinstance(site, list):
        return site
    if len(lines) < many + 1:
        return [len(lines), 0]
    found = (('book', site),)
    for k, text in enumerate(lines[many + 1:]):
        told = event(text)
        if isinstance(told, list):
            return [many + 1 + k, told[1]]
        found += (told,)
    return found


LETTERS = ' \n:,()-0123456789abhdlfk|A'


def spoilt_text(random, text, many=1):
    """A text with so many places changed."""
    for _ in range(many):
        k = random.randrange(len(text) + 1)
        letter = random.choice(LETTERS)
        words = text.split(' ')
        m = random.randrange(len(words))
        text = random.choice((
            text[:k] + letter + text[k:], text[:k] + text[k + 1:], text[:k] + letter + text[k + 1:], text[:k],
            ' '.join(words[:m] + words[m + 1:]), ' '.join(words[:m] + words[m:m + 1] + words[m:]), ' '.join(words[:m] + [''] + words[m:]),
            text.replace(random.choice(words) or ' ', random.choice(words)),
        ))
    return text


def spoilt_lines(random, lines, many=1):
    """Lines with so many of them changed, left out, doubled or exchanged."""
    for _ in range(many):
        k, m = random.randrange(len(lines)), random.randrange(len(lines))
        lines = random.choice((
            lines[:k] + [spoilt_text(random, lines[k]).replace('\n', '')] + lines[k + 1:],
            lines[:k] + [spoilt_text(random, lines[k]).replace('\n', '')] + lines[k + 1:],
            lines[:k] + lines[k + 1:], lines[:k] + lines[k:k + 1] + lines[k:], lines[:k] + [lines[m]] + lines[k + 1:], lines[:k] + [''] + lines[k:],
        )) or ['']
    return lines
