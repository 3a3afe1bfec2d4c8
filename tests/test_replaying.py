"""Logs of books, and books that are replayed ([71]; (W7) of [9])."""

from random import Random

import days
import plainbook
from helpers import ODD, Case
from sites import CLEAN, EMPTY, MOVES, OIL, SITE
from test_books import DAY, EVENTS, behind, random_books, state_of
from test_events import BY_KIND, no_events
from test_kinds import nested
from whichfirst.books import Book
from whichfirst.errors import InvalidEvent
from whichfirst.replaying import is_log, replayed
from whichfirst.sitechanges import with_limit

FIVE = SITE[:2] + (tuple((name,) + OIL[1:] for name in 'abcde'),)


class TestLog(Case):
    def test_ordinary(self):
        book = Book(SITE)
        self.same(book.log(), (('book', SITE),))
        book.do_all(DAY, ('done', ('clean',)), ('drop', 'oil'))
        self.same(book.log(), (('book', SITE), DAY, ('done', ('clean',)), ('drop', 'oil')))
        book.undo()
        self.same(book.log(), (('book', SITE), DAY, ('done', ('clean',))))

    def test_str(self):
        self.same(str(behind(*EVENTS[:3])), 'pass 8:2 6:0 / done clean / anew oil')
        self.same((str(Book(EMPTY)), str(behind(('pass', ()), ('pass', ()), site=EMPTY))), ('-', 'pass / pass'))
        self.same(str(behind(('limit', 'oil', nested(1200), (0, 0, 0))))[:22], 'limit oil later(first(')

    def test_of_random_books(self):
        for book, plain in random_books(1):
            self.same(is_log(book.log()), True)
            self.same(book.log()[1:], tuple(plain.events))


class TestIsLog(Case):
    def test_logs(self):
        for site in (SITE, EMPTY, MOVES, SITE[:2] + (FIVE[2][:4],), with_limit(SITE, 'oil', nested(2000), (0, 0, 0))):
            self.same(is_log((('book', site),)), True)
        # Possible or not, and more than a book can have.
        for event in BY_KIND:
            self.same(is_log((('book', EMPTY), event, event)), True)
        self.same(is_log(thing=(('book', SITE),) + (DAY,) * 60), True)

    def test_no_logs(self):
        good = ('book', SITE)
        for odd in ODD + (good, [good], [good, DAY], (DAY,), (DAY, good), (list(good),), (good + (1,),), (('book',),), ('book',), SITE):
            self.same(is_log(odd), False)
        for odd in ODD + (list(SITE), SITE[:2], FIVE, (SITE[0], (), SITE[2]), SITE[:2] + ((OIL, CLEAN),), Book(SITE)):
            self.same(is_log((('book', odd),)), False)
            self.same(is_log((('book', odd), DAY)), False)
        for word in ODD + ('log', 'Book', b'book', ('book',)):
            self.same(is_log(((word, SITE),)), False)
        for odd in no_events():
            self.same((is_log((good, odd)), is_log((good, DAY, odd)), is_log((good, odd, DAY))), (False,) * 3)


class TestReplayed(Case):
    def test_ordinary(self):
        book = replayed((('book', SITE), DAY, ('done', ('clean',))))
        self.assertIs(type(book), Book)
        self.same((book.day_now, book.bases_now, book.tally(), len(book)), (1, (1, 0), (0, 0), 2))
        self.same(replayed(log=(('book', EMPTY),)).log(), (('book', EMPTY),))

    def test_equal_to_the_book_of_the_log(self):
        for book, plain in random_books(2):
            other = replayed(book.log())
            self.assertTrue(other == book and other is not book)
            self.same((state_of(other), other.tally()), (state_of(book), (0, 0)))
            while len(other):
                self.same(other.undo(), plain.events[len(other)])
            self.same(other == Book(book.log()[0][1]), True)

    def test_made_in_another_way(self):
        book = Book(SITE)
        book.passed(((8, 2), (6, 0)))
        book.drop_task('oil')
        book.undo()
        book.visit('clean')
        self.assertRaises(InvalidEvent, book.visit, 'nobody')
        self.same(replayed((('book', SITE), DAY, ('done', ('clean',)))) == book, True)

    def test_a_new_book(self):
        book = behind(*EVENTS)
        other = replayed(book.log())
        other.passed(((1, 1), (1, 1)))
        self.same((book == other, len(book), len(other)), (False, len(EVENTS), len(EVENTS) + 1))

    def test_the_first_error(self):
        for k in range(5):
            for odd, reason in ((('drop', 'nobody'), 'task'), (('pass', ()), 'uses'), (('expect', 'nothing', (1, 1)), 'machine')):
                log = (('book', SITE),) + (DAY,) * k + (odd, ('drop', 'x'))
                self.same(is_log(log), True)
                self.raises(InvalidEvent, {'event': odd, 'reason': reason}, replayed, log)
        self.raises(InvalidEvent, {'event': DAY, 'reason': 'full'}, replayed, (('book', SITE),) + (DAY,) * 41)
        self.same(len(replayed((('book', SITE),) + (DAY,) * 40)), 40)

    def test_plain_books(self):
        random = Random(71)
        for site in days.small_sites(30, 71):
            plain = plainbook.random_log(random, site, 25)
            book = replayed((('book', site),) + tuple(plain.events))
            self.same((book.site_now, book.day_now, book.bases_now), plain.state())
