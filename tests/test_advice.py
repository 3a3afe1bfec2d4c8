"""What a book advises ([69], [70], the consequences behind it; (W2), (W6) and (W7) of [9])."""

from itertools import combinations, product
from random import Random

import brute
import days
from helpers import NO_NAME, NO_NUMBER, ODD, Case
from sites import EMPTY, MOVES, OIL, SITE, one
from test_books import DAY, behind, random_books, state_of
from test_events import BY_KIND, no_events
from whichfirst.books import Book
from whichfirst.errors import InvalidEvent, NeverKept, NotUsable
from whichfirst.exchanges import best_exchange, first_late
from whichfirst.planning import fewest_visits
from whichfirst.siteparts import use_of

BOOKS = random_books(2, 14)


def told(book, upto):
    """The fewest visits now, or None."""
    try:
        return book.visits_now(upto)
    except NeverKept:
        return None


def expected(book):
    """The event that today is over, with the use that was expected."""
    return ('pass', tuple(use_of(book.site_now, machine, book.day_now) for machine, _ in book.site_now[0]))


class TestBarred(Case):
    def test_none_just_if_it_is_possible(self):
        for book, plain in BOOKS:
            for event in BY_KIND:
                self.same(book.barred(event), plain.reason(event))
        self.same(Book(SITE).barred(event=('drop', 'oil')), None)

    def test_any_value(self):
        book = behind(DAY)
        for odd in no_events():
            self.same(book.barred(odd), 'shape')


class TestToday(Case):
    def test_can_do(self):
        self.same([behind(*[DAY] * many).can_do() for many in (0, 3, 4, 6, 7)], [('clean',), ('clean',), ('clean', 'oil'), ('clean', 'oil'), ('clean',)])
        self.same((Book(EMPTY).can_do(), behind(*[DAY] * 40).can_do()), ((), ('clean',)))
        for book, plain in BOOKS:
            self.same(book.can_do(), tuple(name for name in sorted(plain.tasks) if plain.is_able(name)))

    def test_missed_now(self):
        self.same([behind(*[DAY] * many).missed_now() for many in (6, 7)], [(), (('clean', 6), ('oil', 6))])
        seen = 0
        for book, plain in BOOKS:
            self.same(book.missed_now(), plain.missed())
            seen += len(plain.missed()) > 0
        self.assertGreater(seen, 10)

    def test_days_of(self):
        self.same((Book(SITE).days_of('oil'), Book(SITE).days_of(name='clean')), ((4, 5, 6), (6, 6, 6)))
        for book, plain in BOOKS:
            for name in book:
                self.same(book.days_of(name), plain.days_of(name))
            for odd in NO_NAME + ODD + ('pump', 'nobody'):
                self.raises(NotUsable, {'word': 'task', 'at': -1}, book.days_of, odd)


class TestVisits(Case):
    def test_ordinary(self):
        book = Book(SITE)
        self.same([book.visits_now(upto) for upto in (0, 6, 7, 20)], [(), (), (6,), (6, 11, 16)])
        book = behind(*[DAY] * 4)
        self.same((book.visits_now(upto=20), book.visits_now(4)), ((6, 11, 16), ()))
        book.visit('clean', 'oil')
        self.same(book.visits_now(22), (10, 16, 21))
        self.same((Book(EMPTY).visits_now(10 ** 59), behind(('pass', ()), site=EMPTY).visits_now(1)), ((), ()))

    def test_a_new_book_is_as_planned(self):
        for site in (SITE, MOVES) + tuple(days.small_sites(30, 70)):
            for upto in (0, 9, 20):
                try:
                    want = fewest_visits(site, upto)
                except NeverKept as error:
                    self.raises(NeverKept, vars(error), Book(site).visits_now, upto)
                else:
                    self.same(Book(site).visits_now(upto), want)

    def test_today_is_the_first_day(self):
        book = behind(*[DAY] * 6)
        self.same((book.visits_now(6), book.visits_now(7), book.visits_now(12)), ((), (6,), (6, 11)))

    def test_missed_already(self):
        book = behind(*[DAY] * 7)
        for upto in (7, 8, 60):
            self.raises(NeverKept, {'task': 'clean', 'day': 6}, book.visits_now, upto)
        book.visit('clean')
        self.raises(NeverKept, {'task': 'oil', 'day': 6}, book.visits_now, 7)
        book.set_limit('oil', ('days', 9), (0, 0, 0))
        self.same(book.visits_now(20), (9, 15, 18))
        # The least late day counts, and the first task of several with it.
        book = behind(('limit', 'clean', ('days', 4), (0, 0, 0)), ('task', ('z', 'saw', 'kept', ('days', 4), (0, 0, 0))), *[DAY] * 9)
        self.raises(NeverKept, {'task': 'clean', 'day': 4}, book.visits_now, 9)
        book = behind(('limit', 'oil', ('days', 4), (0, 0, 0)), *[DAY] * 9)
        self.raises(NeverKept, {'task': 'oil', 'day': 4}, book.visits_now, 9)

    def test_missed_behind_some_visits(self):
        site = one(('hours', 2), (1, 0, 0), uses=((1, 0), (1, 0), (1, 0), (3, 0)))
        self.same(Book(site).visits_now(4), (3,))
        self.raises(NeverKept, {'task': 'task', 'day': 4}, Book(site).visits_now, 5)

    def test_all_sets_of_days(self):
        """As few as any sets of days from today on, and each as late as the late days let it be."""
        never = later = 0
        for book, plain in BOOKS:
            today, bases, site = book.day_now, book.bases_now, book.site_now
            for upto in (today, today + 3, today + 7):
                visits = told(book, upto)
                sets = brute.all_keeping(site, upto, today, bases)
                if visits is None:
                    never += 1
                    self.same(sets, [])
                    continue
                self.assertIn(visits, sets)
                self.same(len(visits), min(map(len, sets)))
                for other in sets:
                    self.assertTrue(all(day <= greedy for day, greedy in zip(other, visits)))
                later += today > 2 and len(visits) > 1
            upto = today + 16
            visits = told(book, upto)
            self.same(brute.fewest(site, upto, today, bases), None if visits is None else len(visits))
        self.assertGreater(never, 30)
        self.assertGreater(later, 15)

    def test_never_kept_by_whom_and_when(self):
        seen = 0
        for book, plain in BOOKS:
            site, today, upto = book.site_now, book.day_now, book.day_now + 9
            if told(book, upto) is not None:
                continue
            seen += 1
            bases, last = book.bases_now, today - 1
            while True:
                late = [days.early_due_late(site, task, base)[2] for task, base in zip(site[2], bases)]
                least = min(day for day in late if day is not None)
                if least <= last:
                    break
                last = least
                bases = brute.behind(site, bases, least)
            task = [task[0] for task, day in zip(site[2], late) if day == least][0]
            self.raises(NeverKept, {'task': task, 'day': least}, book.visits_now, upto)
        self.assertGreater(seen, 10)

    def test_wrong(self):
        for book in (Book(SITE), behind(DAY, DAY), Book(EMPTY), behind(*[DAY] * 9)):
            for odd in NO_NUMBER + (book,) + tuple(range(book.day_now)):
                before = state_of(book)
                self.raises(NotUsable, {'word': 'upto', 'at': -1}, book.visits_now, odd)
                for visits in ((), (5,), None, [1]):
                    self.raises(NotUsable, {'word': 'upto', 'at': -1}, book.keeps_now, visits, odd)
                self.same(state_of(book), before)


class TestKeeps(Case):
    def test_ordinary(self):
        book = Book(SITE)
        self.same([book.keeps_now((6, 11, 16), upto) for upto in (15, 16, 21, 22)], [False, True, True, False])
        self.same((book.keeps_now((), 6), book.keeps_now((), 7), book.keeps_now(upto=0, days=(0,))), (True, False, True))
        book = behind(*[DAY] * 6)
        self.same([book.keeps_now(visits, 7) for visits in ((6,), (5,), (7,), (), (6, 7))], [True, False, False, False, True])
        self.same([behind(*[DAY] * 7).keeps_now(visits, 7) for visits in ((), (7,))], [False, False])

    def test_any_value(self):
        book = behind(DAY)
        wrong = [odd for odd in ODD if odd not in ((), (1,))] + [[6], (6, 6), (6, 5), (6, None), (True, 6), (6, True), ('6',), ((6,),), 6]
        for odd in wrong + [(0, 6), (6, 8), (-1, 6), book, {6: 1}]:
            self.same(book.keeps_now(odd, 7), False)
        self.same((book.keeps_now((1, 6), 7), book.keeps_now((True, 6), 7)), (True, False))

    def test_all_sets_of_days(self):
        for book, plain in BOOKS[::3]:
            today, bases, site = book.day_now, book.bases_now, book.site_now
            for upto in (today, today + 5):
                for many in range(4):
                    for visits in combinations(range(max(0, today - 1), upto + 2), many):
                        self.same(book.keeps_now(visits, upto), brute.keep(site, visits, upto, today, bases))


class TestExchange(Case):
    def test_ordinary(self):
        self.same(Book(SITE).exchange_now(), best_exchange(SITE, (0, 0), 0))
        self.same(behind(*[DAY] * 4).exchange_now(), (6, ((), ('pump', 'saw'))))
        self.same(Book(EMPTY).exchange_now(), (None, ((),)))

    def test_as_the_functions_tell(self):
        for book, plain in BOOKS:
            self.same(book.exchange_now(), best_exchange(book.site_now, book.bases_now, book.day_now))
            self.same(first_late(book.site_now, book.bases_now), plain.first_late())


class TestConsequences(Case):
    def test_done_on_the_first_of_the_visits(self):
        seen = 0
        for book, plain in random_books(2, 14):
            upto = book.day_now + 12
            visits = told(book, upto)
            if visits and len(book) + visits[0] - book.day_now < Book.MOST:
                while book.day_now < visits[0]:
                    book.go(expected(book))
                book.visit(*book.can_do())
                self.same(book.keeps_now(visits[1:], upto), True)
                self.same(told(book, upto), visits[1:])
                seen += 1
        self.assertGreater(seen, 20)

    def test_pass_as_expected_changes_nothing_that_is_told_of_later_days(self):
        random = Random(71)
        for book, plain in random_books(2, 12):
            for _ in range(random.randint(1, 4)):
                site, today = book.site_now, book.day_now
                before = [book.days_of(name) for name in book]
                upto = today + 9
                visits, kept = told(book, upto), [book.keeps_now((today + 1, today + k), upto) for k in (4, 7)]
                late, bases = first_late(site, book.bases_now), book.bases_now
                self.same(book.go(expected(book)), late)
                self.same((book.day_now, book.bases_now, book.site_now[1:]), (today + 1, bases, site[1:]))
                self.same([book.days_of(name) for name in book], before)
                for (machine, _), day in product(site[0], range(today + 20)):
                    self.same(use_of(book.site_now, machine, day), use_of(site, machine, day))
                if visits is None or today not in visits:
                    self.same(told(book, upto), visits)
                self.same([book.keeps_now((today + 1, today + k), upto) for k in (4, 7)], kept)

    def test_all_that_can_be_done_can_be_told_as_done(self):
        for book, plain in BOOKS:
            names = book.can_do()
            if len(book) < Book.MOST:
                self.same([book.barred(('done', (name,))) for name in names], [None] * len(names))
                self.same(book.barred(('done', names)), None if names else 'shape')
                for name in book:
                    if name not in names:
                        self.raises(InvalidEvent, {'event': ('done', (name,)), 'reason': 'window'}, book.visit, name)
