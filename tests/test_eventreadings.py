"""Events and logs that are read ([73], by [72], [18] and [19])."""

from random import Random

import days
import plainbook
import plainreading
from sites import CLEAN, EMPTY, MOVES, OIL, SITE
from test_eventtexts import LINES
from test_events import BY_KIND
from test_kinds import nested
from test_sitereadings import TextCase
from whichfirst.books import Book
from whichfirst.eventreadings import read_event, read_log
from whichfirst.eventtexts import event_line, log_lines
from whichfirst.replaying import is_log, replayed
from whichfirst.sitetexts import limit_text, site_text, task_text

SIXTY = '9' * 60
LOG = ['book 6'] + site_text(SITE).split('\n') + ['pass 8:2 6:0', 'done clean', 'move saw -']
EVENTS = [event for event, _ in LINES] + list(BY_KIND)

# For each kind of event a line, and for each of its words behind the first one words that cannot stand there.
NO_NAMES = ('', '-', 'Oil', 'ninechars', 'o1', 'a,b', 'oil:', '?')
NO_USES = ('', '-', '8', '8:', ':2', '8:2:1', '08:2', '8:-2', '8:2,6:0', '8:' + SIXTY + '0', 'x')
NO_LIMITS = ('', '-', 'days:0', 'days', 'weeks:1', 'first()', 'first(days:1', '7', limit_text(nested(31)))
NO_SETS = ('', ',', 'oil,', ',oil', 'oil,clean', 'oil,oil', 'clean,,oil', 'clean,Oil', '-', 'ninechars', 'a,b,a')
NO_SLACKS = ('', '-', '0:0', '0:0:0:0', '00:0:0', '0,0,0', 'x')
KINDS = (
    ('pass 8:2 6:0', (NO_USES, NO_USES)),
    ('done clean,oil', (NO_SETS,)),
    ('anew oil', (NO_SETS,)),
    ('move saw mill', (NO_NAMES, tuple(word for word in NO_NAMES if word != '-') + ('--', 'None'))),
    ('expect mill 0:9', (NO_NAMES, NO_USES)),
    ('task oil pump kept days:7 8:0:1', (NO_NAMES, NO_NAMES, ('', 'Kept', 'way', '-'), NO_LIMITS, NO_SLACKS)),
    ('drop oil', (NO_NAMES,)),
    ('limit oil days:7 8:0:1', (NO_NAMES, NO_LIMITS, NO_SLACKS)),
)


class TestEvents(TextCase):
    def test_ordinary(self):
        self.same(read_event('done clean,oil'), ('done', ('clean', 'oil')))
        self.same(read_event(text='move saw -'), ('move', 'saw', None))
        for event, line in LINES:
            self.same(read_event(line), event)

    def test_what_is_written_is_read_back(self):
        for event in EVENTS:
            self.same(read_event(event_line(event)), event)
            self.same(event_line(read_event(event_line(event))), event_line(event))

    def test_random_events(self):
        random = Random(73)
        for site in days.small_sites(40, 73):
            book = plainbook.PlainBook(site)
            for _ in range(8):
                event = plainbook.random_event(random, book)
                self.same(read_event(event_line(event)), event)

    def test_pass(self):
        self.same(read_event('pass'), ('pass', ()))
        self.same(read_event('pass 0:0'), ('pass', ((0, 0),)))
        self.same(read_event('pass ' + SIXTY + ':0 1:1 2:2 3:3')[1][0], (10 ** 60 - 1, 0))
        self.wrong(0, 1, read_event, 'pass ')
        self.wrong(0, 2, read_event, 'pass 8:2 ')
        self.wrong(0, 1, read_event, 'pass  8:2')

    def test_names_that_are_words_too(self):
        for name in ('move', 'pass', 'done', 'book', 'undo', 'task', 'machine', 'first'):
            self.same(read_event('drop ' + name), ('drop', name))
            self.same(read_event(f'move {name} {name}'), ('move', name, name))
        self.same(read_event('done done,drop'), ('done', ('done', 'drop')))

    def test_each_word(self):
        for line, odd in KINDS:
            words = line.split(' ')
            for k, others in enumerate(odd, 1):
                for other in others:
                    self.wrong(0, k, read_event, ' '.join(words[:k] + [other] + words[k + 1:]))
                    # What stands behind it does not matter.
                    self.wrong(0, k, read_event, ' '.join(words[:k] + [other]))
                    self.wrong(0, k, read_event, ' '.join(words[:k] + [other] + ['?'] * (len(words) - k)))

    def test_missing_and_too_many(self):
        for line, _ in KINDS:
            words = line.split(' ')
            for k in range(1, len(words)):
                if words[0] != 'pass':
                    self.wrong(0, k, read_event, ' '.join(words[:k]))
                self.wrong(0, k, read_event, ' '.join(words[:k]) + ' ')
                self.wrong(0, k, read_event, ' '.join(words[:k] + [''] + words[k:]))
            self.wrong(0, len(words), read_event, line + ' ')
            self.wrong(0, len(words), read_event, line + ' x')

    def test_the_first_word(self):
        for text in ('', ' ', 'Pass', 'passed', 'undo', 'book 0', 'machine a 0:0', 'part a 0:-', ' pass', 'pass,', '-', 'done,oil', 'drop:oil', '\n'):
            self.wrong(0, 0, read_event, text)

    def test_newlines_belong_to_their_words(self):
        for line, _ in KINDS:
            words = line.split(' ')
            for k, word in enumerate(words):
                for odd in ('\n' + word, word + '\n', word + '\n\n', word[:1] + '\n' + word[1:]):
                    self.wrong(0, k, read_event, ' '.join(words[:k] + [odd] + words[k + 1:]))
        self.wrong(0, 0, read_event, 'pass\npass')
        self.wrong(0, 1, read_event, 'pass \n')

    def test_spoilt(self):
        random = Random(74)
        read = 0
        for event in EVENTS * 40:
            text = plainreading.spoilt_text(random, event_line(event), random.choice((1, 1, 2)))
            want = plainreading.event(text)
            if isinstance(want, list):
                self.wrong(*want, read_event, text)
            else:
                read += 1
                self.same(read_event(text), want)
        self.assertGreater(read, 100)


class TestLogs(TextCase):
    def test_ordinary(self):
        want = (('book', SITE), ('pass', ((8, 2), (6, 0))), ('done', ('clean',)), ('move', 'saw', None))
        self.same(read_log(LOG), want)
        self.same(read_log(lines=LOG[:7]), want[:1])
        self.same(replayed(read_log(LOG)).bases_now, (1, 0))

    def test_the_empty_site(self):
        self.same(read_log(['book 0']), (('book', EMPTY),))
        self.same(read_log(['book 0', 'pass']), (('book', EMPTY), ('pass', ())))

    def test_what_is_written_is_read_back(self):
        random = Random(75)
        for site in [SITE, MOVES, EMPTY] + days.small_sites(40, 75):
            plain = plainbook.random_log(random, site, 12)
            log = (('book', site),) + tuple(plain.events)
            self.same(read_log(log_lines(log)), log)
            self.same(log_lines(read_log(log_lines(log))), log_lines(log))
            self.assertTrue(replayed(read_log(log_lines(log))) == replayed(log))
        log = (('book', SITE),) + tuple(EVENTS)
        self.same(read_log(log_lines(log)), log)

    def test_of_a_book(self):
        book = Book(SITE)
        book.do_all(('pass', ((8, 2), (6, 0))), ('done', ('clean',)))
        self.same(read_log(log_lines(book.log())), book.log())

    def test_nothing_else_is_checked(self):
        """Names of anything, in any order; events that are not possible; more than a book can have."""
        lines = ['book 3', 'machine b 0:0', 'machine a 1:1', task_text(OIL)] + ['drop nobody', 'pass', 'expect x 1:1'] * 20
        log = read_log(lines)
        self.same((log[0][1], len(log), is_log(log)), (((('b', ((0, 0),)), ('a', ((1, 1),))), (), (OIL,)), 61, False))
        self.same(read_log(['book 2', task_text(OIL), task_text(CLEAN)])[0][1], ((), (), (OIL, CLEAN)))

    def test_lists_stay_as_they_are(self):
        lines = list(LOG)
        read_log(lines)
        self.same(lines, LOG)

    def test_the_line_of_the_book(self):
        self.wrong(0, 0, read_log, [])
        for text in ('', ' ', 'Book 6', 'books 6', 'log 6', 'pass', 'machine lift 8:2', ' book 6', 'book\n6'):
            self.wrong(0, 0, read_log, [text] + LOG[1:])
        for number in ('', '-1', '06', '+6', 'x', '6:0', SIXTY + '0', '-', '6.0', '6,'):
            self.wrong(0, 1, read_log, ['book ' + number] + LOG[1:])
        self.wrong(0, 1, read_log, ['book'])
        for text in ('book 6 ', 'book 6 6', 'book 6  '):
            self.wrong(0, 2, read_log, [text] + LOG[1:])
        self.wrong(0, 1, read_log, ['book  6'] + LOG[1:])

    def test_a_line_of_the_site_that_is_missing(self):
        for k in range(1, 7):
            self.wrong(k, 0, read_log, LOG[:k])
        self.wrong(1, 0, read_log, ['book 1'])
        self.wrong(1, 0, read_log, ['book ' + SIXTY])
        self.wrong(7, 0, read_log, ['book ' + SIXTY] + LOG[1:7])
        # One too few: the first event is no line of a site, and comes ahead of what is missing.
        self.wrong(7, 0, read_log, ['book 7'] + LOG[1:])
        self.wrong(7, 0, read_log, ['book 9'] + LOG[1:8])
        self.wrong(3, 2, read_log, ['book 9'] + LOG[1:3] + ['part pump 1:lift'])

    def test_a_line_of_the_site_too_many(self):
        self.wrong(6, 0, read_log, ['book 4'] + LOG[1:5] + ['drop oil', 'part a 0:-'])
        self.wrong(1, 0, read_log, ['book 0'] + LOG[1:])
        # A task is a line of an event, too.
        self.same(read_log(['book 5'] + LOG[1:])[:2], (('book', SITE[:2] + ((CLEAN,),)), ('task', OIL)))
        self.wrong(5, 0, read_log, ['book 2'] + LOG[1:3] + ['pass', 'pass', 'book 0'])

    def test_lines_of_the_site(self):
        for k in range(1, 7):
            many = len(LOG[k].split(' '))
            self.wrong(k, 0, read_log, LOG[:k] + [''] + LOG[k:])
            self.wrong(k, many, read_log, LOG[:k] + [LOG[k] + ' '] + LOG[k + 1:])
            self.wrong(k, many, read_log, LOG[:k] + [LOG[k] + ' x'] + ['?'])
            self.wrong(k, many - 1, read_log, LOG[:k] + [' '.join(LOG[k].split(' ')[:-1])] + LOG[k + 1:])
            self.wrong(k, 1, read_log, LOG[:k] + [LOG[k].replace(' ', '  ', 1)] + LOG[k + 1:])
        self.wrong(2, 0, read_log, ['book 2', 'part a 0:-', 'machine b 0:0'])
        self.wrong(2, 0, read_log, ['book 2', task_text(OIL), 'part a 0:-', '?'])

    def test_lines_of_events(self):
        for k in range(7, 10):
            self.wrong(k, 0, read_log, LOG[:k] + [''] + LOG[k:])
            self.wrong(k, len(LOG[k].split(' ')), read_log, LOG[:k] + [LOG[k] + ' '] + LOG[k + 1:] + ['?'])
            self.wrong(k, 0, read_log, LOG[:k] + ['book 0'] + LOG[k:])
        self.wrong(10, 1, read_log, LOG + ['done oil,clean'])

    def test_spoilt(self):
        random = Random(76)
        read = 0
        for site in [SITE, MOVES, EMPTY] + days.small_sites(30, 77):
            lines = log_lines((('book', site),) + tuple(plainbook.random_log(random, site, 6).events))
            for _ in range(20):
                odd = plainreading.spoilt_lines(random, lines, random.choice((1, 1, 2)))
                want = plainreading.log(odd)
                if isinstance(want, list):
                    self.wrong(*want, read_log, odd)
                else:
                    read += 1
                    self.same(read_log(odd), want)
        self.assertGreater(read, 100)
