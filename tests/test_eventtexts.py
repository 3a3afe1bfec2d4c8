"""Events and logs as lines ([72], by [18] and [61])."""

import days
from helpers import Case
from sites import EMPTY, MOVES, OIL, SITE
from test_kinds import nested
from whichfirst.books import Book
from whichfirst.eventtexts import event_line, log_lines
from whichfirst.replaying import is_log
from whichfirst.sitetexts import site_text

LINES = (
    (('pass', ()), 'pass'),
    (('pass', ((8, 2),)), 'pass 8:2'),
    (('pass', ((8, 2), (6, 0), (10 ** 59, 1))), 'pass 8:2 6:0 1' + '0' * 59 + ':1'),
    (('done', ('oil',)), 'done oil'),
    (('done', ('clean', 'oil')), 'done clean,oil'),
    (('anew', ('a', 'b', 'c')), 'anew a,b,c'),
    (('move', 'pump', 'mill'), 'move pump mill'),
    (('move', 'pump', None), 'move pump -'),
    (('expect', 'mill', (0, 9)), 'expect mill 0:9'),
    (('task', OIL), 'task oil pump kept first(hours:40,days:7) 8:0:1'),
    (('drop', 'oil'), 'drop oil'),
    (('limit', 'oil', ('later', (('days', 3), ('first', (('hours', 9),)))), (0, 1, 2)), 'limit oil later(days:3,first(hours:9)) 0:1:2'),
    (('limit', 'oil', nested(30), (0, 0, 0)), 'limit oil ' + 'later(first(' * 15 + 'days:1' + ')' * 30 + ' 0:0:0'),
)


class TestEvents(Case):
    def test_each_kind(self):
        for event, line in LINES:
            self.same(event_line(event), line)
        self.same(event_line(event=('drop', 'clean')), 'drop clean')

    def test_different_events_have_different_lines(self):
        self.same(len({event_line(event) for event, _ in LINES}), len(LINES))


class TestLogs(Case):
    def test_ordinary(self):
        log = (('book', SITE),) + tuple(event for event, _ in LINES)
        self.same(log_lines(log), ['book 6'] + site_text(SITE).split('\n') + [line for _, line in LINES])
        self.same(log_lines(log=(('book', SITE), ('drop', 'oil')))[-1], 'drop oil')

    def test_the_empty_site(self):
        self.same(log_lines((('book', EMPTY),)), ['book 0'])
        self.same(log_lines((('book', EMPTY), ('pass', ()))), ['book 0', 'pass'])

    def test_any_value_that_is_a_log(self):
        for site in [MOVES] + days.small_sites(30, 72):
            log = (('book', site), ('drop', 'nobody'), ('pass', ()))
            self.assertTrue(is_log(log))
            many = len(site[0]) + len(site[1]) + len(site[2])
            self.same(log_lines(log), [f'book {many}'] + site_text(site).split('\n') + ['drop nobody', 'pass'])

    def test_of_a_book(self):
        book = Book(SITE)
        book.do_all(('pass', ((8, 2), (6, 0))), ('move', 'saw', None))
        self.same(log_lines(book.log())[7:], ['pass 8:2 6:0', 'move saw -'])
        self.same(str(book), 'pass 8:2 6:0 / move saw -')

    def test_a_new_list(self):
        log = (('book', SITE),)
        lines = log_lines(log)
        lines.append('more')
        self.same(len(log_lines(log)), 7)
