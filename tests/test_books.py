"""A live book ([62], [64] to [68], the ways to apply events; [63] and [61] in test_events; (W7) of [9])."""

from random import Random

import days
import plainbook
from helpers import NO_NAME, ODD, Case
from sites import CLEAN, EMPTY, MOVES, OIL, SITE, one
from test_kinds import nested
from whichfirst.books import Book
from whichfirst.errors import InvalidEvent, InvalidPaper, NothingToUndo, NotUsable
from whichfirst.eventtexts import event_line
from whichfirst.replaying import replayed
from whichfirst.sitechanges import with_stay, with_task
from whichfirst.sitechecker import lets_site

DAY = ('pass', ((8, 2), (6, 0)))
EVENTS = (
    ('pass', ((8, 2), (6, 0))), ('done', ('clean',)), ('anew', ('oil',)), ('move', 'saw', None), ('expect', 'mill', (1, 1)),
    ('task', ('a', 'pump', 'fresh', ('days', 3), (0, 0, 0))), ('drop', 'clean'), ('limit', 'oil', ('days', 3), (0, 0, 0)), DAY,
)
SITES = [SITE, MOVES, EMPTY, one(('days', 2), (0, 0, 5))] + days.small_sites(40, 65)


def behind(*events, site=SITE):
    book = Book(site)
    for event in events:
        book.go(event)
    return book


def state_of(book):
    return (book.site_now, book.day_now, book.bases_now, book.log(), len(book), list(book), str(book), book.table(), book.missed_now())


def random_books(many=3, length=18):
    """Books with the plain ones that they should be like."""
    random = Random(67)
    found = []
    for site in SITES:
        for _ in range(many):
            plain = plainbook.random_log(random, site, length)
            found.append((replayed((('book', site),) + tuple(plain.events)), plain))
    return found


class TestMaking(Case):
    def test_at_first(self):
        book = Book(SITE)
        self.same((book.site_now, book.day_now, book.bases_now, len(book), list(book)), (SITE, 0, (0, 0), 0, ['clean', 'oil']))
        self.same((book.log(), str(book), book.tally(), book.table()), (
            (('book', SITE),), '-', (0, 0), ['clean      0   6   6 can', 'oil        0   5   6 wait'],
        ))
        self.same(Book(site=EMPTY).bases_now, ())
        self.same((Book.MOST, Book.TASKS, book.MOST), (40, 4, 40))

    def test_the_errors_of_lets_site(self):
        wrong = ODD + (list(SITE), SITE[:2], SITE + ((),), (SITE[0], SITE[1], [CLEAN]), (SITE[0][:1],) + SITE[1:])
        wrong += ((SITE[0], (), SITE[2]), SITE[:2] + ((OIL, CLEAN),), (((),), (), ()), Book(SITE))
        wrong += (SITE[:2] + ((OIL[:2] + ('way',) + OIL[3:],),), SITE[:2] + ((OIL[:4] + ((8, 0),),),))
        for odd in wrong:
            with self.assertRaises(InvalidPaper) as caught:
                lets_site(odd)
            self.raises(InvalidPaper, vars(caught.exception), Book, odd)

    def test_too_many_tasks(self):
        site = SITE
        for name in ('a', 'b'):
            site = with_task(site, (name,) + OIL[1:])
        self.same(Book(site).bases_now, (0, 0, 0, 0))
        self.raises(NotUsable, {'word': 'many', 'at': -1}, Book, with_task(site, ('c',) + OIL[1:]))
        # What is no site is told first.
        tasks = tuple((name, 'pump', 'kept', ('days', 0), (0, 0, 0)) for name in 'abcde')
        self.raises(InvalidPaper, {'word': 'limit', 'at': 0}, Book, SITE[:2] + (tasks,))

    def test_what_cannot_be_set(self):
        book = Book(SITE)
        for name in ('site_now', 'day_now', 'bases_now'):
            self.assertRaises(AttributeError, setattr, book, name, 0)
        self.same(state_of(book), state_of(Book(SITE)))


class TestPass(Case):
    def test_uses_as_they_are_written_then(self):
        book = Book(SITE)
        book.passed(((10, 0), (0, 0)))
        self.same(book.site_now[0], (('lift', ((10, 0), (8, 2))), ('mill', ((0, 0), (6, 0)))))
        book.passed(uses=((8, 2), (1, 1)))
        self.same(book.site_now[0], (('lift', ((10, 0), (8, 2), (8, 2))), ('mill', ((0, 0), (1, 1), (6, 0)))))
        self.same((book.site_now[1:], book.day_now, book.bases_now), (SITE[1:], 2, (0, 0)))

    def test_uses_that_end_behind_today(self):
        site = ((('mill', ((1, 1), (2, 2), (3, 3), (4, 4), (5, 5))),), (), ())
        self.same(behind(('pass', ((9, 9),)), site=site).site_now[0][0][1], ((9, 9), (2, 2), (3, 3), (4, 4), (5, 5)))
        told = behind(*[('pass', ((9, 9),))] * 4, site=site).site_now[0][0][1]
        self.same(told, ((9, 9),) * 4 + ((5, 5),))
        self.same(behind(*[('pass', ((9, 9),))] * 5, site=site).site_now[0][0][1], ((9, 9),) * 5 + ((5, 5),))
        self.same(behind(*[('pass', ((9, 9),))] * 6, site=site).site_now[0][0][1], ((9, 9),) * 6 + ((5, 5),))

    def test_without_machines(self):
        book = Book(EMPTY)
        self.same((book.passed(()), book.day_now, book.site_now, str(book)), (None, 1, EMPTY, 'pass'))

    def test_tasks_stay_and_late_days_come(self):
        book = Book(SITE)
        self.same([book.passed(((8, 2), (6, 0))) for _ in range(3)], [6, 6, 6])
        self.same(book.passed(((40, 0), (0, 0))), 3)
        self.same(book.missed_now(), (('oil', 3),))


class TestDoneAndAnew(Case):
    def test_done(self):
        book = behind(*[DAY] * 4)
        self.same((book.visit('clean', 'oil'), book.bases_now, book['oil'], book['clean']), (10, (4, 5), 5, 4))
        self.same((book.visit('clean'), book.bases_now), (10, (4, 5)))

    def test_for_two_windows_at_once(self):
        site = one(('days', 2), (0, 0, 5))
        book = behind(*[('pass', ((1, 0),))] * 6, site=site)
        self.same((book.visit('task'), book.bases_now), (13, (6,)))

    def test_a_base_that_stays(self):
        book = behind(('pass', ((3, 0),)), site=one(('hours', 2), (1, 0, 0), uses=((3, 0),)))
        self.same((book.visit('task'), book.bases_now, book.can_do()), (1, (0,), ('task',)))

    def test_anew(self):
        book = behind(*[DAY] * 2)
        self.same((book.renew('oil'), book.bases_now, book.days_of('oil')), (6, (0, 2), (6, 7, 8)))
        late = behind(*[DAY] * 9)
        self.same((late.missed_now(), late.renew('oil'), late.bases_now), ((('clean', 6), ('oil', 6)), 6, (0, 9)))
        self.same(late.missed_now(), (('clean', 6),))


class TestPlans(Case):
    def test_move(self):
        book = behind(DAY, DAY)
        self.same((book.move('saw', None), book.site_now[1][1]), (6, ('saw', ((0, 'mill'), (2, None)))))
        self.same((book.move('saw', 'mill'), book.site_now[1][1]), (6, ('saw', ((0, 'mill'), (2, 'mill')))))
        book.passed(((8, 2), (6, 0)))
        self.same((book.move('saw', 'lift'), book.site_now[1][1]), (6, ('saw', ((0, 'mill'), (2, 'mill'), (3, 'lift')))))
        self.same(book.site_now, with_stay(book.site_now, 'saw', 3, 'lift'))

    def test_move_on_day_0(self):
        book = Book(SITE)
        self.same((book.move('saw', 'mill'), book.site_now[1][1]), (6, ('saw', ((0, 'mill'),))))

    def test_expect(self):
        book = Book(SITE)
        self.same((book.expect('lift', (1, 0)), book.site_now[0][0], book.days_of('oil')), (6, ('lift', ((1, 0),)), (6, 7, 8)))
        book = behind(DAY, DAY, DAY)
        self.same((book.expect(machine='lift', use=(50, 0)), book.site_now[0][0]), (3, ('lift', ((8, 2),) * 3 + ((50, 0),))))
        self.same(book.site_now[0][1], ('mill', ((6, 0),) * 4))
        site = ((('mill', ((1, 1), (2, 2), (3, 3), (4, 4))),), (), ())
        self.same(behind(('pass', ((9, 9),)), ('expect', 'mill', (0, 0)), site=site).site_now[0][0][1], ((9, 9), (0, 0)))

    def test_tasks(self):
        book = behind(DAY, DAY)
        self.same(book.add_task(('belt', 'saw', 'kept', ('days', 2), (0, 0, 0))), 4)
        self.same((list(book), book.bases_now, book['belt']), (['belt', 'clean', 'oil'], (2, 0, 0), 2))
        self.same((book.add_task(task=('zoo', 'pump', 'fresh', ('days', 1), (0, 0, 0))), book.bases_now), (3, (2, 0, 0, 2)))
        self.same((book.drop_task('clean'), list(book), book.bases_now), (3, ['belt', 'oil', 'zoo'], (2, 0, 2)))
        self.same([book.drop_task(name) for name in ('zoo', 'belt', 'oil')], [4, 6, None])
        self.same((book.bases_now, list(book), book.table(), book.site_now[2]), ((), [], [], ()))

    def test_limit(self):
        book = behind(DAY, ('limit', 'oil', ('days', 2), (0, 0, 1)))
        self.same((book.days_of('oil'), book.bases_now), ((1, 2, 3), (0, 0)))
        self.same(book.set_limit(name='oil', limit=OIL[3], slack=(0, 0, 0)), 5)
        self.same(book.site_now[2][1], OIL[:4] + ((0, 0, 0),))

    def test_missed_until_it_is_done_or_its_late_day_changes(self):
        book = behind(*[DAY] * 7)
        self.same((book.missed_now(), book.can_do()), ((('clean', 6), ('oil', 6)), ('clean',)))
        book.visit('clean')
        self.same(book.missed_now(), (('oil', 6),))
        book.passed(((8, 2), (6, 0)))
        self.same(book.missed_now(), (('oil', 6),))
        book.set_limit('oil', ('days', 8), (0, 0, 0))
        self.same((book.missed_now(), book.can_do()), ((), ('clean', 'oil')))
        book.set_limit('oil', ('days', 3), (0, 0, 0))
        self.same((book.missed_now(), book.undo()), ((('oil', 3),), ('limit', 'oil', ('days', 3), (0, 0, 0))))
        self.same(book.missed_now(), ())


class TestApplying(Case):
    """The methods of [65], and the events that they stand for."""

    def test_each_method(self):
        start = (DAY, DAY)
        for event in EVENTS:
            word, *rest = event
            for call in (Book.go, Book.__call__):
                book = behind(*start)
                answer = call(book, event)
                self.same(state_of(book), state_of(behind(*start, event)))
                self.same(answer, behind(*start).go(event))
            book = behind(*start)
            method = {
                'pass': book.passed, 'done': book.visit, 'anew': book.renew, 'move': book.move, 'expect': book.expect,
                'task': book.add_task, 'drop': book.drop_task, 'limit': book.set_limit,
            }[word]
            args = rest[0] if word in ('done', 'anew') else rest
            self.same(method(*args), answer)
            self.same((state_of(book), book.tally()), (state_of(behind(*start, event)), (3, 3)))
            self.same(book.log()[-1], event)
        book = Book(SITE)
        self.same((book(DAY), book(event=DAY), book.go(event=DAY), len(book)), (6, 6, 6, 3))
        self.same((book.move(place=None, part='saw'), book.drop_task(name='oil')), (6, 6))
        self.same(book.log()[-2:], (('move', 'saw', None), ('drop', 'oil')))

    def test_they_accept_any_values(self):
        for odd in ODD + (Book(SITE),):
            book = behind(DAY)
            before = state_of(book)
            if odd != ():
                self.shape(('pass', odd), book.passed, odd)
            self.shape(('done', (odd,)), book.visit, odd)
            self.shape(('anew', ('oil', odd)), book.renew, 'oil', odd)
            self.shape(('move', odd, None), book.move, odd, None)
            if odd is not None:
                self.shape(('move', 'saw', odd), book.move, 'saw', odd)
            self.shape(('expect', odd, odd), book.expect, odd, odd)
            self.shape(('expect', 'lift', odd), book.expect, 'lift', odd)
            self.shape(('task', odd), book.add_task, odd)
            self.shape(('drop', odd), book.drop_task, odd)
            self.shape(('limit', odd, odd, odd), book.set_limit, odd, odd, odd)
            self.shape(('limit', 'oil', ('days', 2), odd), book.set_limit, 'oil', ('days', 2), odd)
            self.shape(odd, book.go, odd)
            self.shape(odd, book, odd)
            self.same((state_of(book), book.tally()[0] > 11), (before, True))
        self.shape(('done', ()), Book(SITE).visit)
        self.shape(('done', ('oil', 'clean')), Book(SITE).visit, 'oil', 'clean')
        self.shape(('anew', ()), Book(SITE).renew)
        self.raises(InvalidEvent, {'event': ('anew', ('clean',)), 'reason': 'fresh'}, Book(SITE).renew, 'clean')

    def shape(self, event, call, *args):
        self.raises(InvalidEvent, {'event': event, 'reason': 'shape'}, call, *args)

    def test_answers(self):
        for book, plain in random_books():
            for event in (('pass', tuple((1, 1) for _ in plain.uses)), ('move', 'pump', None), ('drop', 'a')):
                if plain.reason(event) is None:
                    plain.apply(event)
                    self.same(book(event), plain.first_late())


class TestRead(Case):
    def test_items(self):
        book = behind(DAY, ('anew', ('oil',)))
        self.same((book['clean'], book['oil']), (0, 1))
        for odd in NO_NAME + ODD + ('pump', book, 0):
            self.raises(NotUsable, {'word': 'task', 'at': -1}, lambda: book[odd])
            self.raises(NotUsable, {'word': 'task', 'at': -1}, lambda: Book(EMPTY)[odd])
            self.same((odd in book, odd in Book(EMPTY)), (False, False))
        self.same(['oil' in book, 'clean' in book], [True, True])
        self.raises(NotUsable, {'word': 'task', 'at': -1}, lambda: behind(('drop', 'oil'))['oil'])

    def test_iterated(self):
        book = behind(('task', ('a',) + OIL[1:]))
        self.same([(name, book[name]) for name in book], [('a', 0), ('clean', 0), ('oil', 0)])
        seen = []
        for name in book:
            seen.append(name)
            if name == 'a':
                book.drop_task('oil')
        self.same((seen, list(book)), (['a', 'clean', 'oil'], ['a', 'clean']))

    def test_len(self):
        self.same([len(behind(*EVENTS[:many])) for many in (0, 1, 2, 4)], [0, 1, 2, 4])

    def test_equal(self):
        one_book, other = behind(*EVENTS), Book(SITE)
        self.same((one_book == other, one_book != other), (False, True))
        other.do_all(*EVENTS)
        other.do_all(DAY, ('drop', 'oil'))
        other.undo()
        other.undo()
        self.same((one_book == other, one_book != other, one_book.tally() == other.tally()), (True, False, False))
        other.undo()
        self.same(one_book == other, False)
        for value in ODD + (SITE, one_book.log(), len(EVENTS), object(), Book):
            self.same((one_book == value, value == one_book, one_book != value), (False, False, True))

    def test_unequal_though_the_same_in_all_else(self):
        twice = behind(('done', ('clean',)), ('done', ('clean',)))
        once = behind(('done', ('clean',)))
        self.same((twice.site_now, twice.day_now, twice.bases_now), (once.site_now, once.day_now, once.bases_now))
        self.same(twice == once, False)
        # The same uses, told in another order.
        one_book = behind(('expect', 'lift', (1, 0)), ('expect', 'mill', (1, 0)))
        other = behind(('expect', 'mill', (1, 0)), ('expect', 'lift', (1, 0)))
        self.same((one_book.site_now == other.site_now, one_book == other), (True, False))
        # What one site is written as from the beginning the other one has become.
        start = Book(behind(('drop', 'oil')).site_now)
        self.same((start.site_now == behind(('drop', 'oil')).site_now, start == behind(('drop', 'oil'))), (True, False))

    def test_equal_with_deep_limits(self):
        books = [behind(('limit', 'oil', ('first', (nested(2000), ('days', n))), (0, 0, 0))) for n in (1, 1, 2)]
        self.same((books[0] == books[1], books[0] == books[2]), (True, False))


class TestTried(Case):
    def test_ordinary(self):
        book = behind(DAY)
        before = state_of(book)
        self.same(book.tried(), (book.site_now, 1, (0, 0)))
        self.same(book.tried(DAY, ('anew', ('oil',)))[1:], (2, (0, 2)))
        for many in range(len(EVENTS) - 1):
            other = behind(DAY, *EVENTS[:many])
            self.same(book.tried(*EVENTS[:many]), (other.site_now, other.day_now, other.bases_now))
        self.same((state_of(book), book.tally()), (before, (1, 1)))

    def test_the_first_error(self):
        book = Book(SITE)
        for k in range(4):
            for odd, reason in ((None, 'shape'), (('drop', 'nobody'), 'task'), (('pass', ()), 'uses'), ([DAY], 'shape')):
                events = (DAY,) * k + (odd, ('drop', 'x'), None)
                self.raises(InvalidEvent, {'event': odd, 'reason': reason}, book.tried, *events)
                self.same((state_of(book), book.tally()), (state_of(Book(SITE)), (0, 0)))

    def test_full_counts_those_before(self):
        book = behind(*[DAY] * 38)
        self.same(book.tried(DAY, DAY)[1], 40)
        self.raises(InvalidEvent, {'event': DAY, 'reason': 'full'}, book.tried, DAY, DAY, DAY)
        self.raises(InvalidEvent, {'event': None, 'reason': 'shape'}, book.tried, DAY, DAY, None)
        self.same(Book(SITE).tried(*[DAY] * 40)[1], 40)


class TestUndo(Case):
    def test_one_after_the_other(self):
        book = Book(SITE)
        states = [state_of(book)]
        for event in EVENTS:
            book.go(event)
            states.append(state_of(book))
        for event in EVENTS[::-1]:
            self.same(state_of(book), states.pop())
            self.same(book.undo(), event)
        self.same(state_of(book), states.pop())
        self.same(book.tally(), (18, 18))

    def test_nothing_to_undo(self):
        book = Book(SITE)
        for many in (1, 2):
            self.raises(NothingToUndo, {'steps': 0}, book.undo)
            self.same((state_of(book), book.tally()), (state_of(Book(SITE)), (many, many)))

    def test_a_full_book_has_room_again(self):
        book = behind(*[DAY] * 40)
        self.raises(InvalidEvent, {'event': DAY, 'reason': 'full'}, book.go, DAY)
        self.same((book.undo(), book.barred(DAY), book.go(DAY), len(book)), (DAY, None, 6, 40))


class TestDoAll(Case):
    def test_ordinary(self):
        book = Book(SITE)
        self.same((book.do_all(), book.do_all(*EVENTS), book.tally()), (0, len(EVENTS), (2, 2)))
        self.same(state_of(book), state_of(behind(*EVENTS)))
        kept = Book(SITE)
        self.same((kept.do_all(*EVENTS, keep=True), kept == book, kept.tally()), (len(EVENTS), True, (1, 1)))

    def test_keep_by_name_only(self):
        self.raises(InvalidEvent, {'event': True, 'reason': 'shape'}, Book(SITE).do_all, DAY, True)

    def test_an_error_in_the_middle(self):
        for k in range(4):
            for odd, reason in ((None, 'shape'), (('drop', 'nobody'), 'task'), (['pass'], 'shape')):
                events = EVENTS[:k] + (odd,) + (DAY, None)
                book, kept = behind(DAY), behind(DAY)
                self.raises(InvalidEvent, {'event': odd, 'reason': reason}, book.do_all, *events)
                self.raises(InvalidEvent, {'event': odd, 'reason': reason}, kept.do_all, *events, keep=True)
                self.same((state_of(book), state_of(kept)), (state_of(behind(DAY)), state_of(behind(DAY, *EVENTS[:k]))))
                self.same((book.tally(), kept.tally()), ((2, 2), (2, 2)))

    def test_full_counts_those_before(self):
        for keep, many in ((False, 38), (True, 40)):
            book = behind(*[DAY] * 38)
            self.raises(InvalidEvent, {'event': DAY, 'reason': 'full'}, book.do_all, DAY, DAY, DAY, keep=keep)
            self.same((len(book), book.day_now), (many, many))


class TestTally(Case):
    def test_each_call_counts_once(self):
        book = Book(SITE)
        calls = (
            lambda: book.passed(((1, 1), (1, 1))), lambda: book.visit('clean'), lambda: book.renew('oil'), lambda: book.move('saw', None),
            lambda: book.expect('lift', (1, 1)), lambda: book.add_task(('a',) + OIL[1:]), lambda: book.drop_task('a'),
            lambda: book.set_limit('oil', ('days', 1), (0, 0, 0)), lambda: book.go(DAY), lambda: book(DAY), book.undo,
            lambda: book.do_all(DAY, DAY, DAY), book.do_all,
        )
        for many, call in enumerate(calls):
            self.same(book.tally(), (many, many))
            call()
        wrong = (
            lambda: book.passed(1), lambda: book.visit(), lambda: book.renew('clean'), lambda: book.move('saw', None),
            lambda: book.expect(1, 1), lambda: book.add_task(1), lambda: book.drop_task(1), lambda: book.set_limit(1, 1, 1),
            lambda: book.go(1), lambda: book(1), lambda: book.do_all(DAY, 1), lambda: book.do_all(DAY, 1, keep=True),
        )
        for many, call in enumerate(wrong):
            self.same(book.tally(), (many + len(calls),) * 2)
            self.assertRaises(InvalidEvent, call)
        self.same(book.tally(), (len(calls) + len(wrong),) * 2)

    def test_what_is_asked_counts_and_changes_nothing(self):
        book = behind(*EVENTS)
        before, tally = state_of(book), book.tally()
        for call in (
            lambda: book.tried(DAY), lambda: book.tried(None), book.tally, book.table, book.log, lambda: book.barred(DAY),
            lambda: book.barred(None), book.can_do, book.missed_now, lambda: book.days_of('oil'), lambda: book.days_of(1),
            lambda: book.visits_now(20), lambda: book.visits_now(-1), lambda: book.keeps_now((), 9), book.exchange_now,
            lambda: book['oil'], lambda: book[1], lambda: 'oil' in book, lambda: list(book), lambda: len(book), lambda: str(book),
            lambda: book == Book(SITE), lambda: (book.site_now, book.day_now, book.bases_now),
        ):
            try:
                call()
            except (InvalidEvent, NotUsable):
                pass
            self.same((state_of(book), book.tally()), (before, tally))


class TestTable(Case):
    def test_ordinary(self):
        book = behind(*[DAY] * 4)
        self.same(book.table(), ['clean      0   6   6 can', 'oil        0   5   6 can'])
        book = behind(*[DAY] * 7)
        self.same(book.table(), ['clean      0   6   6 missed', 'oil        0   5   6 missed'])
        self.same(Book(EMPTY).table(), [])

    def test_none_and_wide_ones(self):
        site = MOVES[:2] + ((('abcdefgh', 'axle', 'kept', ('hours', 1), (0, 0, 0)), ('b', 'axle', 'fresh', ('days', 1000), (0, 0, 1))),)
        book = behind(*[('pass', ((1, 1), (1, 1), (1, 1)))] * 11, site=site)
        self.same(book.table(), ['abcdefgh   0   -   - wait', 'b          0 1000 1001 can'])

    def test_as_defined(self):
        for book, plain in random_books():
            missed = dict(plain.missed())
            want = []
            for name in sorted(plain.tasks):
                _, due, late = plain.days_of(name)
                word = 'missed' if name in missed else 'can' if plain.is_able(name) else 'wait'
                shown = ['-' if day is None else str(day) for day in (due, late)]
                want.append(' '.join([name.ljust(8), str(plain.bases[name]).rjust(3), shown[0].rjust(3), shown[1].rjust(3), word]))
            self.same(book.table(), want)

    def test_what_is_returned_belongs_to_the_caller(self):
        book = behind(DAY)
        rows = book.table()
        rows.clear()
        self.same(len(book.table()), 2)
        list(book).clear()
        self.same(list(book), ['clean', 'oil'])


class TestPlain(Case):
    """(W7): what is told is what the definitions tell of what is known."""

    def test_states(self):
        for book, plain in random_books():
            self.same((book.site_now, book.day_now, book.bases_now), plain.state())
            self.same(lets_site(book.site_now), len(book.bases_now))
            self.same(tuple(book), tuple(sorted(plain.tasks)))
            self.same(book.log()[1:], tuple(plain.events))
            self.same(str(book), ' / '.join(map(event_line, plain.events)) or '-')


class TestExamples(Case):
    def test_book(self):
        self.examples("""
    >>> from whichfirst.books import Book
    >>> book = Book(SITE)
    >>> [book.passed(((10, 0), (0, 0))), book.day_now, book.days_of('oil'), book.visits_now(20)]
    [5, 1, (4, 4, 5), (5, 10, 15)]
    >>> DAY = ('pass', ((8, 2), (6, 0)))
    >>> [book.do_all(DAY, DAY, DAY), book.can_do(), book.visit('clean', 'oil'), book.bases_now, book.visits_now(20)]
    [3, ('clean', 'oil'), 10, (4, 4), (10, 15)]
    >>> book.renew('clean')
    raises InvalidEvent(event=('anew', ('clean',)), reason='fresh')
    >>> [book.move('pump', 'mill'), book.days_of('oil'), book.table()]
    [10, (10, 10, 12), ['clean      4  10  10 can', 'oil        4  10  12 wait']]
    >>> [book.barred(('done', ('oil',))), book.barred(('anew', ('oil',))), book.keeps_now((10,), 15), book.keeps_now((), 11)]
    ['window', 'base', True, False]
        """)
