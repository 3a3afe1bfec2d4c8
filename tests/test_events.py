"""Events by kind ([61]), and why one is not possible ([63]), for the books that tell of them."""

from itertools import product
from random import Random

import days
import plainbook
from helpers import ODD, Case
from look import NO_LIMIT
from sites import CLEAN, EMPTY, MOVES, OIL, SITE, one
from test_kinds import BAD, nested
from whichfirst.books import Book
from whichfirst.errors import InvalidEvent

DAY = ('pass', ((8, 2), (6, 0)))
BY_KIND = (
    ('pass', ()), ('pass', ((8, 2),)), DAY, ('pass', ((0, 10 ** 59),) * 9), ('done', ('oil',)), ('done', ('a', 'b', 'oil')),
    ('anew', ('clean', 'oil')), ('move', 'saw', None), ('move', 'nobody', 'nowhere'), ('expect', 'mill', (0, 0)), ('task', OIL),
    ('task', ('a', 'b', 'fresh', nested(30), (0, 0, 10 ** 59))), ('drop', 'nobody'), ('limit', 'oil', ('days', 1), (0, 0, 0)),
)
NO_USES = [(odd,) for odd in BAD['is_use']] + [((8, 2), odd) for odd in BAD['is_use']] + [[], [(8, 2)], None, 5, 'ab', (8, 2)]
NO_NAMES = (
    (), [], ['oil'], 'oil', None, ('oil', 'clean'), ('oil', 'oil'), ('a', 'b', 'a'), ('Oil',), ('oil', ''), ('oil', None), (True,),
    (['oil'],), (('oil',),), 5,
)
NO_NAME = BAD['is_name']


def no_events():
    found = list(ODD) + ['pass', ('pass',), list(DAY), DAY + (1,), ('Pass', ()), ('passed', ()), (('pass', ()),), ('book', SITE)]
    found += [(word,) + event[1:] for event in BY_KIND for word in ODD + ('renew', 'undo', b'drop')]
    found += [event + (None,) for event in BY_KIND] + [event[:-1] for event in BY_KIND] + [list(event) for event in BY_KIND]
    found += [('pass', odd) for odd in NO_USES]
    found += [(word, odd) for word in ('done', 'anew') for odd in NO_NAMES]
    found += [('move', odd, place) for odd in NO_NAME for place in ('mill', None)]
    found += [('move', 'saw', odd) for odd in NO_NAME if odd is not None]
    found += [('expect', odd, (1, 1)) for odd in NO_NAME] + [('expect', 'mill', odd) for odd in BAD['is_use']]
    found += [('task', odd) for odd in ODD + BAD['is_task']] + [('drop', odd) for odd in NO_NAME + (('oil',),)]
    found += [('limit', odd, ('days', 1), (0, 0, 0)) for odd in NO_NAME]
    found += [('limit', 'oil', odd, (0, 0, 0)) for odd in NO_LIMIT]
    found += [('limit', 'oil', ('days', 1), odd) for odd in BAD['is_slack']]
    return found


def behind(*events, site=SITE):
    book = Book(site)
    for event in events:
        book.go(event)
    return book


class TestKinds(Case):
    def test_no_event_by_kind(self):
        book, full = Book(SITE), behind(*[DAY] * Book.MOST)
        for odd in no_events() + [book, SITE, object()]:
            self.same(book.barred(odd), 'shape')
            self.same(full.barred(odd), 'shape')
            with self.assertRaises(InvalidEvent) as caught:
                book.go(odd)
            self.assertIs(type(caught.exception), InvalidEvent)
            self.assertIs(caught.exception.event, odd)
            self.same(sorted(vars(caught.exception)), ['event', 'reason'])
        self.same((len(book), book.site_now), (0, SITE))

    def test_events_by_kind(self):
        for site in (SITE, EMPTY, MOVES):
            for event in BY_KIND:
                self.assertNotEqual(Book(site).barred(event), 'shape')

    def test_as_the_plain_kinds(self):
        for thing in no_events() + list(BY_KIND):
            self.same(Book(SITE).barred(thing) != 'shape', plainbook.is_by_kind(thing))


class TestReasons(Case):
    """Each reason alone, and ahead of those behind it."""

    def barred(self, reason, event, *before, site=SITE):
        book = behind(*before, site=site)
        self.same(book.barred(event), reason)
        if reason is not None:
            self.raises(InvalidEvent, {'event': event, 'reason': reason}, book.go, event)
            self.same(len(book), len(before))

    def test_full(self):
        for event in BY_KIND:
            self.barred('full', event, *[DAY] * 40)
        self.barred(None, DAY, *[DAY] * 39)

    def test_pass(self):
        for many in (0, 1, 3):
            self.barred('uses', ('pass', ((1, 1),) * many))
        self.barred(None, ('pass', ((0, 0), (0, 0))))
        self.barred(None, ('pass', ()), site=EMPTY)
        self.barred('uses', ('pass', ((0, 0),)), site=EMPTY)

    def test_done(self):
        for names in (('nobody',), ('oil', 'pump'), ('lift',), ('a', 'clean')):
            self.barred('task', ('done', names))
        self.barred('window', ('done', ('oil',)))
        self.barred('window', ('done', ('clean', 'oil')), DAY, DAY, DAY)
        self.barred(None, ('done', ('clean', 'oil')), *[DAY] * 4)
        self.barred(None, ('done', ('clean', 'oil')), *[DAY] * 6)
        self.barred('window', ('done', ('clean', 'oil')), *[DAY] * 7)
        self.barred(None, ('done', ('clean',)), *[DAY] * 7)

    def test_done_on_one_day_again(self):
        self.barred(None, ('done', ('clean',)), ('done', ('clean',)))
        self.barred('window', ('done', ('oil',)), *[DAY] * 4, ('done', ('oil',)))

    def test_anew(self):
        for names in (('nobody',), ('clean', 'nobody'), ('lift', 'oil')):
            self.barred('task', ('anew', names), *[DAY] * 4)
        self.barred('fresh', ('anew', ('clean',)), DAY)
        self.barred('fresh', ('anew', ('clean', 'oil')), *[DAY] * 4)
        for many in (4, 5, 6):
            self.barred('window', ('anew', ('oil',)), *[DAY] * many)
        self.barred('base', ('anew', ('oil',)))
        self.barred(None, ('anew', ('oil',)), DAY)
        # Too late is outside of the window, too.
        self.barred(None, ('anew', ('oil',)), *[DAY] * 7)
        # A base that is still to come.
        self.barred('base', ('anew', ('oil',)), *[DAY] * 4, ('done', ('oil',)))
        self.barred('base', ('anew', ('oil',)), *[DAY] * 4, ('done', ('oil',)), DAY)
        self.barred(None, ('anew', ('oil',)), *[DAY] * 4, ('done', ('oil',)), DAY, DAY)

    def test_anew_of_several(self):
        tasks = tuple((name, 'pump', 'kept', ('days', n), (0, 0, 0)) for name, n in (('a', 2), ('b', 3)))
        site = SITE[:2] + (tasks,)
        self.barred('window', ('anew', ('a', 'b')), DAY, DAY, site=site)
        # One is in its window and the base of the other one is today: the window comes first.
        self.barred('window', ('anew', ('a', 'b')), DAY, DAY, ('anew', ('b',)), site=site)
        self.barred('base', ('anew', ('a', 'b')), DAY, ('anew', ('b',)), site=site)
        self.barred(None, ('anew', ('a', 'b')), DAY, site=site)

    def test_move(self):
        for part in ('nobody', 'lift', 'oil'):
            for place in ('mill', 'nowhere', None):
                self.barred('part', ('move', part, place))
        for place in ('nowhere', 'saw', 'oil'):
            self.barred('place', ('move', 'saw', place))
        self.barred('place', ('move', 'axle', 'nowhere'), site=MOVES)
        self.barred('same', ('move', 'pump', 'lift'))
        self.barred(None, ('move', 'pump', None))
        # Where it is already, but not for good; and where it will be, but is not yet.
        self.barred(None, ('move', 'saw', 'mill'))
        self.barred(None, ('move', 'saw', 'lift'))
        self.barred('same', ('move', 'saw', 'lift'), *[DAY] * 4)
        self.barred('same', ('move', 'saw', 'mill'), ('move', 'saw', 'mill'))
        self.barred('same', ('move', 'axle', None), site=MOVES)

    def test_move_same_however_it_is_written(self):
        stays = ((0, 'mill'), (2, 'mill'), (5, 'mill'))
        site = (SITE[0], (('saw', stays),), ())
        self.barred('same', ('move', 'saw', 'mill'), site=site)
        self.barred('same', ('move', 'saw', 'mill'), DAY, DAY, site=site)
        away = (SITE[0], (('saw', ((0, 'mill'), (2, None), (5, 'mill'))),), ())
        self.barred(None, ('move', 'saw', 'mill'), site=away)
        self.barred(None, ('move', 'saw', 'mill'), *[DAY] * 4, site=away)
        self.barred('same', ('move', 'saw', 'mill'), *[DAY] * 5, site=away)

    def test_expect(self):
        for machine in ('nothing', 'pump', 'oil'):
            self.barred('machine', ('expect', machine, (8, 2)))
        self.barred('same', ('expect', 'lift', (8, 2)))
        self.barred(None, ('expect', 'lift', (8, 1)))
        self.barred(None, ('expect', 'mill', (2, 5)))
        self.barred(None, ('expect', 'mill', (6, 0)))
        self.barred('same', ('expect', 'mill', (6, 0)), DAY)
        self.barred('same', ('expect', 'mill', (2, 5)), ('expect', 'mill', (2, 5)))

    def test_expect_same_however_it_is_written(self):
        site = ((('mill', ((1, 1), (2, 2), (2, 2))),), (), ())
        self.barred(None, ('expect', 'mill', (2, 2)), site=site)
        self.barred('same', ('expect', 'mill', (2, 2)), ('pass', ((5, 5),)), site=site)
        self.barred('same', ('expect', 'mill', (2, 2)), *[('pass', ((5, 5),))] * 9, site=site)

    def test_task(self):
        four = [('task', (name, 'saw', 'fresh', ('days', 1), (0, 0, 0))) for name in ('a', 'b')]
        for task in (OIL, ('c', 'saw') + OIL[2:], ('c', 'nobody') + OIL[2:]):
            self.barred('many', ('task', task), *four)
        for part in ('pump', 'nobody'):
            self.barred('name', ('task', ('oil', part) + OIL[2:]))
        for part in ('nobody', 'lift', 'oil'):
            self.barred('part', ('task', ('a', part) + OIL[2:]))
        self.barred(None, ('task', ('a', 'saw') + OIL[2:]), *four[1:])
        self.barred('part', ('task', OIL), site=EMPTY)

    def test_drop(self):
        for name in ('nobody', 'pump'):
            self.barred('task', ('drop', name))
        self.barred('task', ('drop', 'oil'), ('drop', 'oil'))
        self.barred(None, ('drop', 'clean'), ('drop', 'oil'))

    def test_limit(self):
        for name in ('nobody', 'saw'):
            self.barred('task', ('limit', name, OIL[3], OIL[4]))
        self.barred('same', ('limit', 'oil', OIL[3], OIL[4]))
        self.barred('same', ('limit', 'clean', CLEAN[3], CLEAN[4]))
        self.barred(None, ('limit', 'oil', OIL[3], (8, 0, 0)))
        self.barred(None, ('limit', 'oil', ('first', OIL[3][1][::-1]), OIL[4]))
        deep = ('limit', 'oil', nested(2000), (0, 0, 0))
        book = behind(deep)
        self.same([book.barred(deep), book.barred(('limit', 'oil', nested(2002), (0, 0, 0)))], ['same', None])

    def test_plain_books(self):
        """Events of all kinds, possible or not, in books that are led on by them."""
        random = Random(63)
        seen = {}
        for site in [SITE, MOVES, one(('days', 2), (0, 0, 5)), EMPTY] + days.small_sites(50, 63):
            book, plain = Book(site), plainbook.PlainBook(site)
            for _ in range(40):
                event = plainbook.random_event(random, plain)
                reason = plain.reason(event)
                self.same(book.barred(event), reason)
                seen[(event[0], reason)] = seen.get((event[0], reason), 0) + 1
                if reason is None:
                    plain.apply(event)
                    self.same(book.go(event), plain.first_late())
                    self.same((book.site_now, book.day_now, book.bases_now), plain.state())
                else:
                    self.raises(InvalidEvent, {'event': event, 'reason': reason}, book.go, event)
        self.assertGreater(len(seen), 22)


class TestOrder(Case):
    def test_shape_is_first_and_full_is_next(self):
        full = behind(*[DAY] * 40)
        wrong = (
            ('pass', ()), ('done', ('nobody',)), ('anew', ('clean', 'nobody')), ('move', 'nobody', 'nowhere'),
            ('expect', 'nothing', (1, 1)), ('task', OIL), ('drop', 'nobody'), ('limit', 'nobody', OIL[3], OIL[4]), DAY,
        )
        for event, odd in product(wrong, (None, [], True)):
            self.same((full.barred(event), full.barred(event + (odd,))), ('full', 'shape'))
