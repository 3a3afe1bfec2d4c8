"""A desk ([76], by [61] to [73])."""

import re
from random import Random

import days
import plainbook
import plainreading
from helpers import Case
from sites import CLEAN, EMPTY, MOVES, OIL, SITE, one
from test_books import DAY
from whichfirst.books import Book
from whichfirst.desk import Desk
from whichfirst.errors import InvalidEvent, InvalidPaper, InvalidRow, NeverKept, NothingToUndo, NotUsable, WhichError
from whichfirst.eventtexts import event_line, log_lines
from whichfirst.sitetexts import site_text, task_text

FIRST = '\n'.join(log_lines((('book', SITE),)))
DAY_LINE = 'pass 8:2 6:0'
FIVE = 'book 7\n' + '\n'.join(['machine b 8:2', 'part a 0:b'] + [f'task {name} a fresh days:3 0:0:0' for name in 'vwxyz'])
COMMANDS = ('undo', 'events', 'log', 'today', 'bases', 'can', 'missed', 'site', 'table')


def desk_of(*rows, site=SITE):
    desk = Desk()
    desk.say('\n'.join(log_lines((('book', site),))))
    for row in rows:
        desk.say(row)
    return desk


def spaced(things):
    return ' '.join(map(str, things)) or '-'


def dash(day):
    return '-' if day is None else str(day)


ASKED = {
    'undo': lambda book: event_line(book.undo()), 'events': lambda book: str(len(book)), 'log': str, 'today': lambda book: str(book.day_now),
    'bases': lambda book: spaced(book.bases_now), 'can': lambda book: spaced(book.can_do()),
    'missed': lambda book: spaced(f'{name}@{day}' for name, day in book.missed_now()),
    'site': lambda book: site_text(book.site_now).replace('\n', ' / ') or '-', 'table': lambda book: ' / '.join(book.table()) or '-',
}


def answer(book, row):
    """What a desk with this book says, and the book that it has then."""
    lines = row.split('\n')
    log = plainreading.log(lines)
    if isinstance(log, tuple) and len(log) == 1:
        return 'ok', Book(log[0][1])
    if book is None:
        raise InvalidRow(row)
    event = plainreading.event(row)
    if isinstance(event, tuple):
        return dash(book.go(event)), book
    if row in ASKED:
        return ASKED[row](book), book
    if re.fullmatch('visits ' + plainreading.NUMBER, row):
        return spaced(book.visits_now(int(row[7:]))), book
    if re.fullmatch('days ' + plainreading.NAME, row):
        return spaced(map(dash, book.days_of(row[5:]))), book
    if re.fullmatch('base ' + plainreading.NAME, row):
        return str(book[row[5:]]), book
    if row.startswith('bars ') and isinstance(plainreading.event(row[5:]), tuple):
        return book.barred(plainreading.event(row[5:])) or '-', book
    raise InvalidRow(row)


class DeskCase(Case):
    def no_row(self, desk, row):
        before = desk.tally()
        self.raises(InvalidRow, {'row': row}, desk.say, row)
        self.same(desk.tally(), (before[0] + 1, before[1] + 1))

    def answers(self, desk, rows):
        self.same([desk.say(row) for row in rows], list(rows.values()))


class TestFirst(DeskCase):
    def test_ordinary(self):
        desk = Desk()
        self.same((desk.say(FIRST), desk.say(row='today'), desk.say('site')), ('ok', '0', site_text(SITE).replace('\n', ' / ')))
        self.same(Desk().say('book 0'), 'ok')

    def test_nothing_else_before_the_first_book(self):
        desk = Desk()
        for row in COMMANDS + (DAY_LINE, 'pass', 'drop oil', 'visits 3', 'days oil', 'base oil', 'bars pass', 'tally', '', 'x', 'book', 'book 1', FIRST + '\npass', '\n'):
            self.no_row(desk, row)
        self.same(desk.say(FIRST), 'ok')

    def test_no_first_element(self):
        for desk in (Desk(), desk_of(DAY_LINE)):
            for row in (
                FIRST + '\n', '\n' + FIRST, FIRST + '\n' + DAY_LINE, FIRST + '\ndrop oil', 'book 0\n', 'book 0\npass', 'book', 'book 00', 'book x', 'book 0 ',
                'book  0', ' book 0', FIRST.replace('book 6', 'book 5'), FIRST.replace('book 6', 'book 7'), FIRST.replace('\n', ' / '), FIRST[:-1], FIRST + ' ',
                site_text(SITE), 'book 1\npass', 'book 1\n', 'book 2\npart a 0:-\nmachine b 0:0', 'Book 0', 'book 0\nbook 0',
            ):
                self.no_row(desk, row)

    def test_of_which_no_book_can_be_made(self):
        """The errors of Book are raised, also before the first book, and the desk keeps what it had."""
        rows = {
            'book 2\nmachine b 8:2\npart a 0:c': (InvalidPaper, {'word': 'place', 'at': (0, 0)}),
            'book 2\nmachine b 8:2\nmachine a 8:2': (InvalidPaper, {'word': 'machine', 'at': 1}),
            'book 1\ntask a b fresh days:1 0:0:0': (InvalidPaper, {'word': 'owner', 'at': 0}),
            FIVE: (NotUsable, {'word': 'many', 'at': -1}),
        }
        for row, (kind, fields) in rows.items():
            desk = Desk()
            self.raises(kind, fields, desk.say, row)
            self.no_row(desk, 'today')
            self.same(desk.tally(), (2, 2))
            desk = desk_of(DAY_LINE, DAY_LINE)
            self.raises(kind, fields, desk.say, row)
            self.same((desk.say('today'), desk.say('log'), desk.tally()), ('2', f'{DAY_LINE} / {DAY_LINE}', (6, 6)))

    def test_another_book(self):
        desk = desk_of(DAY_LINE, 'done clean')
        self.same((desk.say('today'), desk.say('book 0'), desk.say('today'), desk.say('events'), desk.say('site')), ('1', 'ok', '0', '0', '-'))
        self.same((desk.say(FIRST), desk.say('bases')), ('ok', '0 0'))


class TestEvents(DeskCase):
    def test_answers(self):
        self.answers(desk_of(), {
            'pass 10:0 0:0': '5', 'move pump mill': '6', 'done clean': '7', 'limit oil days:9 0:0:0': '7', 'expect lift 0:0': '7',
            'anew oil': '7', 'task a saw fresh days:1 0:0:0': '2', 'drop a': '7', 'drop clean': '10', 'drop oil': '-',
        })

    def test_the_errors_of_the_book(self):
        desk = desk_of(DAY_LINE)
        for line, event, reason in (
            ('done oil', ('done', ('oil',)), 'window'), ('pass', ('pass', ()), 'uses'), ('drop nobody', ('drop', 'nobody'), 'task'),
            ('anew clean', ('anew', ('clean',)), 'fresh'), ('move pump lift', ('move', 'pump', 'lift'), 'same'),
        ):
            self.raises(InvalidEvent, {'event': event, 'reason': reason}, desk.say, line)
        self.same((desk.say('events'), desk.say('log')), ('1', DAY_LINE))

    def test_full(self):
        desk = desk_of(*[DAY_LINE] * 40)
        self.raises(InvalidEvent, {'event': DAY, 'reason': 'full'}, desk.say, DAY_LINE)
        self.same((desk.say('events'), desk.say('today'), desk.say('bars ' + DAY_LINE)), ('40', '40', 'full'))

    def test_undo(self):
        desk = desk_of(DAY_LINE, 'done clean', 'limit oil first(days:3) 0:1:0', 'move saw -')
        self.same([desk.say('undo') for _ in range(4)], ['move saw -', 'limit oil first(days:3) 0:1:0', 'done clean', DAY_LINE])
        self.raises(NothingToUndo, {'steps': 0}, desk.say, 'undo')
        self.same((desk.say('events'), desk.say('log'), desk.tally()), ('0', '-', (12, 12)))


class TestAsked(DeskCase):
    def test_ordinary(self):
        desk = desk_of('pass 10:0 0:0')
        self.answers(desk, {
            'events': '1', 'log': 'pass 10:0 0:0', 'today': '1', 'bases': '0 0', 'can': 'clean', 'missed': '-', 'visits 20': '5 10 15', 'visits 1': '-',
            'days oil': '4 4 5', 'base oil': '0', 'bars anew oil': '-', 'bars done oil': 'window', 'bars pass': 'uses',
            'table': 'clean      0   6   6 can / oil        0   4   5 wait',
            'site': 'machine lift 10:0,8:2 / machine mill 0:0,6:0 / part pump 0:lift / part saw 0:mill,4:lift / '
                    'task clean saw fresh days:6 0:0:0 / task oil pump kept first(hours:40,days:7) 8:0:1',
        })

    def test_missed(self):
        desk = desk_of(*[DAY_LINE] * 8)
        self.answers(desk, {'missed': 'clean@6 oil@6', 'can': 'clean', 'table': 'clean      0   6   6 missed / oil        0   5   6 missed'})
        self.raises(NeverKept, {'task': 'clean', 'day': 6}, desk.say, 'visits 20')
        desk = desk_of(*[DAY_LINE] * 5)
        self.answers(desk, {'can': 'clean oil', 'visits 6': '-', 'visits 7': '6', 'missed': '-'})

    def test_none(self):
        desk = desk_of(site=MOVES)
        self.answers(desk, {'days check': '- - -', 'days turn': '2 3 4', 'can': 'rinse'})

    def test_nothing(self):
        for site in (EMPTY, SITE[:1] + ((), ())):
            desk = desk_of(site=site)
            self.answers(desk, {
                'log': '-', 'bases': '-', 'can': '-', 'missed': '-', 'table': '-', 'visits 60': '-', 'events': '0', 'today': '0',
            })
        self.same(desk_of(site=EMPTY).say('site'), '-')
        self.same(desk_of(site=EMPTY).say('pass'), '-')

    def test_the_errors_of_the_book(self):
        desk = desk_of(DAY_LINE, DAY_LINE)
        self.raises(NotUsable, {'word': 'upto', 'at': -1}, desk.say, 'visits 1')
        for name in ('nobody', 'pump', 'lift', 'events'):
            self.raises(NotUsable, {'word': 'task', 'at': -1}, desk.say, 'days ' + name)
            self.raises(NotUsable, {'word': 'task', 'at': -1}, desk.say, 'base ' + name)
        self.same(desk.say('visits 2'), '-')
        self.raises(NeverKept, {'task': 'task', 'day': 0}, desk_of(site=one(('hours', 5), uses=((6, 0),))).say, 'visits 1')

    def test_names_that_are_commands(self):
        site = (SITE[0], SITE[1], tuple((name,) + CLEAN[1:] for name in ('bars', 'events', 'move', 'today')))
        self.answers(desk_of(DAY_LINE, site=site), {'base move': '0', 'days today': '6 6 6', 'done bars,move': '6', 'base bars': '1', 'bars drop move': '-', 'drop bars': '6'})


class TestNoRows(DeskCase):
    def test_each_command(self):
        desk = desk_of(DAY_LINE)
        for word in COMMANDS:
            for row in (word + ' ', ' ' + word, word + ' x', word + '\n', '\n' + word, word.title(), word + 's', word + '\n' + word, word + ',', word + ' oil'):
                self.no_row(desk, row)
        self.same((desk.say('events'), desk.say('log')), ('1', DAY_LINE))

    def test_each_command_of_something(self):
        desk = desk_of(DAY_LINE)
        for word, good in (('visits', '7'), ('days', 'oil'), ('base', 'oil'), ('bars', 'drop oil')):
            self.assertTrue(desk.say(f'{word} {good}'))
            for row in (
                word, word + ' ', f'{word}  {good}', f' {word} {good}', f'{word} {good} ', f'{word} {good} x', f'{word} {good}\n', f'{word}\n{good}',
                f'{word} \n{good}', f'{word} -', f'{word} Oil', f'{word.title()} {good}', f'{word}:{good}', f'{word} {good},{good}', f'{word} ?',
            ):
                self.no_row(desk, row)
        for number in ('-1', '07', '+7', '7.0', 'oil', '9' * 61):
            self.no_row(desk, 'visits ' + number)
        for name in ('ninechars', '7', 'oil,clean', 'o l'):
            self.no_row(desk, 'days ' + name)
            self.no_row(desk, 'base ' + name)
        for line in ('bars', 'undo', 'book 0', 'done oil,clean', 'pass ', 'move saw', 'drop oil x', 'visits 7', 'bars drop oil', 'machine b 0:0'):
            self.no_row(desk, 'bars ' + line)

    def test_other_strings(self):
        desk = desk_of()
        for row in ('', ' ', '\n', '-', 'ok', 'tally', 'exit', 'say', 'Pass', 'pass x', 'done', 'done oil,clean', 'move saw', 'machine b 8:2', 'part a 0:-', 'pass\npass', 'keeps 3'):
            self.no_row(desk, row)

    def test_not_possible_comes_ahead_of_other_errors(self):
        desk = desk_of(*[DAY_LINE] * 40)
        self.no_row(desk, DAY_LINE + ' ')
        self.no_row(desk, 'visits 1 ')
        self.no_row(desk, 'base nobody x')


class TestTally(DeskCase):
    def test_each_call_counts_once(self):
        desk = Desk()
        self.same(desk.tally(), (0, 0))
        for k, row in enumerate((FIRST, 'today', DAY_LINE, 'x', 'done oil', 'undo', 'undo', 'visits 3', 'base nobody', FIVE, 'book 0', 'today\n'), 1):
            try:
                desk.say(row)
            except WhichError:
                pass
            self.same(desk.tally(), (k, k))

    def test_desks_do_not_share(self):
        desk, other = desk_of(DAY_LINE), Desk()
        self.same((desk.tally(), other.tally()), ((2, 2), (0, 0)))
        self.no_row(other, 'today')
        self.same(desk.say('today'), '1')


class TestBesideABook(DeskCase):
    """A desk and a book that are told the same."""

    def one(self, desk, book, row):
        try:
            want, book = answer(book, row)
        except WhichError as error:
            self.raises(type(error), vars(error), desk.say, row)
            return book, False
        self.same(desk.say(row), want)
        return book, True

    def rows_for(self, random, book, plain):
        """Rows that are likely, and some that are spoilt."""
        names = list(plain.tasks) + ['nobody']
        rows = [event_line(plainbook.random_event(random, plain)) for _ in range(6)] + list(COMMANDS)
        rows += [f'visits {random.randint(0, 20)}', 'days ' + random.choice(names), 'base ' + random.choice(names)]
        rows += ['bars ' + event_line(plainbook.random_event(random, plain)), random.choice((FIRST, 'book 0', FIVE)) if random.random() < 0.1 else 'today']
        rows += [plainreading.spoilt_text(random, random.choice(rows)) for _ in range(4)]
        random.shuffle(rows)
        return rows

    def test_random_rows(self):
        random = Random(76)
        went = failed = 0
        for site in [SITE, MOVES, EMPTY] + days.small_sites(40, 76):
            plain = plainbook.PlainBook(site)
            desk, book = Desk(), None
            book, _ = self.one(desk, book, 'today')
            book, _ = self.one(desk, book, '\n'.join(log_lines((('book', site),))))
            for _ in range(3):
                for row in self.rows_for(random, book, plain):
                    book, fine = self.one(desk, book, row)
                    went, failed = went + fine, failed + (not fine)
            self.same(desk.say('log'), str(book))
        self.assertTrue(went > 500 and failed > 300)

    def test_logs_told_line_by_line(self):
        random = Random(77)
        for site in [SITE, MOVES] + days.small_sites(30, 78):
            plain = plainbook.random_log(random, site, 15)
            desk = desk_of(*[event_line(event) for event in plain.events], site=site)
            state = plain.state()
            self.same(desk.say('site'), site_text(state[0]).replace('\n', ' / '))
            self.same((desk.say('today'), desk.say('bases'), desk.say('events')), (str(state[1]), spaced(state[2]), str(len(plain.events))))
            self.same(desk.say('missed'), spaced(f'{name}@{day}' for name, day in plain.missed()))


class TestNewTasks(DeskCase):
    def test_a_task_line_is_an_event(self):
        desk = desk_of()
        self.same(desk.say(task_text(('grease',) + OIL[1:])), '6')
        self.same((desk.say('bases'), desk.say('log')), ('0 0 0', task_text(('grease',) + OIL[1:])))
