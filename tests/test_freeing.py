"""Free visits: what can be done, whether they keep a site, what they cost ([7]; can_do of [40], [41])."""

from itertools import product
from random import Random

import brute
import days
import faults
import freely
from helpers import NO_NUMBER, ODD, Case
from sites import CLEAN, EMPTY, MOVES, OIL, SITE, one
from spoil import spoilt
from test_goingby import NO_BASES
from whichfirst.errors import InvalidPaper, NotUsable
from whichfirst.freeing import can_do, cost_of, lets_free
from whichfirst.goingby import are_kept, bases_after, done_on, first_bases

TWO = SITE[:2] + ((('belt', 'saw', 'kept', ('days', 12), (0, 0, 0)), ('grease', 'pump', 'kept', ('days', 10), (0, 0, 0))),)
HARD = ((('mill', ((2, 0), (20, 0))),), (('saw', ((0, 'mill'),)),), (('edge', 'saw', 'kept', ('hours', 9), (0, 0, 0)),))
SITES = [SITE, MOVES, TWO, HARD] + days.small_sites(60, 41)
FREE = ((3, ('oil',)), (6, ('clean',)), (8, ('oil',)))
PRICES = (5, (3, 2))
NO_PRICES = ODD + (
    5, (5,), (5, 3, 2), (5, (3,)), (5, (3, 2, 1)), [5, (3, 2)], (5, [3, 2]), (True, (3, 2)), (5, (3, True)), (-1, (3, 2)), (5, (-1, 2)),
    (None, (3, 2)), ('5', (3, 2)), (5, (3, None)), (5, None), ((3, 2), 5), (5, ()), (5, ('3', 2)), (5, '32'),
)


def some_free(site, upto, random):
    """Free visits of a site that can be, as long as nothing is missed, at random."""
    bases, free = first_bases(site), ()
    for day in range(upto + 1):
        told = list(freely.choices(site, bases, day))
        late = [row[0] for row in brute.miss(site, bases, upto)]
        if told and not brute.miss(site, bases, day) and (random.random() < 0.25 or day in late):
            names, bases = random.choice(told)
            free += ((day, names),)
    return free


class TestCanDo(Case):
    def test_ordinary(self):
        self.same(can_do(TWO, (0, 0), 10), (('belt', 'anew'), ('grease', 'window')))
        self.same(can_do(day=3, bases=(0, 0), site=SITE), (('clean', 'fresh'), ('oil', 'anew')))
        told = [dict(can_do(SITE, (0, 0), day)).get('oil') for day in range(8)]
        self.same(told, [None, 'anew', 'anew', 'anew', 'window', 'window', 'window', None])
        self.same(can_do(EMPTY, (), 3), ())

    def test_fresh_on_any_day(self):
        for base, day in product((0, 7, 10 ** 59), repeat=2):
            self.same(can_do(SITE[:2] + ((CLEAN,),), (base,), day), (('clean', 'fresh'),))

    def test_ahead_of_the_base(self):
        self.same(can_do(SITE, (0, 9), 9), (('clean', 'fresh'),))
        self.same(can_do(SITE, (0, 9), 4), (('clean', 'fresh'),))
        self.same(can_do(SITE, (0, 9), 10), (('clean', 'fresh'), ('oil', 'anew')))

    def test_without_an_early_day(self):
        # It never runs, so it can be done too early on each day behind its base.
        site = one(('hours', 1), uses=((0, 0),))
        self.same([can_do(site, (4,), day) for day in (3, 4, 5, 60, 10 ** 59)], [(), ()] + [(('task', 'anew'),)] * 3)

    def test_with_an_early_day_and_no_due_day(self):
        # Two hours in all: the limit of 4 is reached by a slack of 3 on day 1, and never passed.
        site = one(('hours', 4), (2, 0, 0), uses=((1, 0), (1, 0), (0, 0)))
        self.same(days.early_due_late(site, site[2][0], 0), (2, None, None))
        self.same([can_do(site, (0,), day) for day in (0, 1, 2, 3, 60)], [(), (('task', 'anew'),), (), (), ()])

    def test_a_window_that_goes_on_and_on(self):
        site = one(('hours', 3), (1, 0, 0), uses=((1, 0), (1, 0), (1, 0), (1, 0), (0, 0)))
        told = [can_do(site, (0,), day) for day in (1, 2, 3, 10 ** 59)]
        self.same(told, [(('task', 'anew'),)] + [(('task', 'window'),)] * 3)

    def test_a_window_without_days(self):
        site = one(('hours', 5), uses=((6, 0),))
        self.same([can_do(site, (2,), day) for day in range(6)], [()] * 6)

    def test_as_defined(self):
        seen = {}
        for site in SITES:
            random = Random(repr(site))
            for _ in range(6):
                bases = tuple(random.choice((0, 1, 2, 5, 9)) for _ in site[2])
                for day in (0, 1, 2, 4, 6, 9, 15, 30):
                    want = tuple(sorted((name, way[0]) for name, way in freely.able(site, bases, day).items()))
                    self.same(can_do(site, bases, day), want)
                    self.same(tuple(name for name, way in want if way != 'anew'), done_on(site, bases, day))
                    for _, way in want:
                        seen[way] = seen.get(way, 0) + 1
        self.assertTrue(set(seen) == {'fresh', 'window', 'anew'} and min(seen.values()) > 300)

    def test_wrong(self):
        for odd in NO_BASES:
            for day in (0, -1, None):
                self.raises(NotUsable, {'word': 'bases', 'at': -1}, can_do, SITE, odd, day)
            if odd != ():
                self.raises(NotUsable, {'word': 'bases', 'at': -1}, can_do, EMPTY, odd, 0)
        for odd in NO_NUMBER:
            self.raises(NotUsable, {'word': 'day', 'at': -1}, can_do, SITE, (0, 0), odd)
            self.raises(NotUsable, {'word': 'day', 'at': -1}, can_do, EMPTY, (), odd)


class TestAccepted(Case):
    def test_ordinary(self):
        self.same(lets_free(TWO, 20, ((10, ('belt', 'grease')),)), (10, 10))
        self.same(lets_free(thing=FREE, upto=9, site=SITE), (6, 8))
        # In its window the oil comes to its due day, too early to the day.
        self.same(lets_free(SITE, 9, ((4, ('oil',)), (6, ('clean',)))), (6, 5))
        self.same(lets_free(SITE, 8, ((3, ('oil',)), (6, ('clean',)))), (6, 3))

    def test_without_visits(self):
        for site, upto, want in ((EMPTY, 0, ()), (EMPTY, 10 ** 59, ()), (SITE, 0, (0, 0)), (SITE, 6, (0, 0)), (HARD, 1, (0,))):
            self.same(lets_free(site, upto, ()), want)

    def test_on_upto(self):
        self.same(lets_free(SITE, 6, ((6, ('clean', 'oil')),)), (6, 5))
        self.same(lets_free(SITE, 0, ((0, ('clean',)),)), (0, 0))
        self.raises(InvalidPaper, {'word': 'day', 'at': 0}, lets_free, SITE, 5, ((6, ('clean', 'oil')),))

    def test_done_for_several_windows_at_once(self):
        site = one(('days', 2), (0, 0, 5))
        self.same(lets_free(site, 9, ((6, ('task',)),)), (6,))
        self.same(bases_after(site, (0,), (6,)), (6,))

    def test_visits_are_free_ones(self):
        """Those at which something is done, with all that is done then."""
        for site in SITES:
            random = Random(repr(site))
            for _ in range(6):
                visits = tuple(sorted(random.sample(range(10), random.randint(0, 4))))
                bases, free = first_bases(site), ()
                for day in visits:
                    names = done_on(site, bases, day)
                    free += ((day, names),) if names else ()
                    bases = bases_after(site, bases, (day,))
                if are_kept(site, visits, 10):
                    self.same(lets_free(site, 10, free), bases)

    def test_all_free_visits_of_few_days(self):
        """Each row of days with each choice of names, accepted just if they keep the site."""
        kept = 0
        for site in SITES[4:24]:
            names = [task[0] for task in site[2]][:2]
            some = [(name,) for name in names] + [tuple(names)]
            for told in product([None] + some, repeat=3):
                free = tuple((day, chosen) for day, chosen in enumerate(told) if chosen)
                for upto in (2, 4):
                    self.one(site, upto, free)
                    kept += freely.behind(site, upto, free) is not None
        self.assertGreater(kept, 100)

    def one(self, site, upto, free):
        want = freely.behind(site, upto, free)
        fault = faults.free_fault(site, upto, free)
        self.same(want is None, fault is not None)
        if fault is None:
            self.same(lets_free(site, upto, free), want)
        else:
            self.raises(InvalidPaper, {'word': fault[0], 'at': fault[1]}, lets_free, site, upto, free)


class TestErrors(Case):
    def wrong(self, word, at, thing, site=SITE, upto=9):
        self.raises(InvalidPaper, {'word': word, 'at': at}, lets_free, site, upto, thing)
        self.raises(InvalidPaper, {'word': word, 'at': at}, cost_of, site, upto, thing, (1, (0,) * len(site[2])))
        self.same(faults.free_fault(site, upto, thing), (word, at))

    def test_shape(self):
        for odd in [value for value in ODD if value != ()] + [
            'ab', 3, (3, ('oil',)), [(3, ('oil',))], ([3, ('oil',)],), ((3,),), ((3, ('oil',), 0),), ((3, ['oil']),), ((3, 'oil'),),
        ] + [((day, ('oil',)),) for day in NO_NUMBER]:
            self.wrong('shape', -1, odd)
            self.wrong('shape', -1, odd, EMPTY, 0)
        # An element that is no such pair counts ahead of a first one that is wrong.
        self.wrong('shape', -1, ((10, ()), (3, 'oil')))

    def test_day(self):
        for names in (('oil',), (), ('nobody',), (None,)):
            self.wrong('day', 0, ((10, names),) + FREE)
            self.wrong('day', 1, FREE[:1] + ((3, names),))
            self.wrong('day', 1, FREE[:1] + ((2, names),))
            self.wrong('day', 2, FREE[:2] + ((10 ** 59, names),))
            self.wrong('day', 0, ((1, names),), upto=0)

    def test_missed(self):
        for names in (('oil',), (), ('nobody',), ('oil', 'clean')):
            self.wrong('missed', 0, ((7, names),))
            self.wrong('missed', 1, FREE[:1] + ((7, names),))
        self.wrong('missed', 2, ((3, ('oil',)), (6, ('clean',)), (10, ('oil',))), upto=20)

    def test_names(self):
        for names in ((), ('nobody',), ('oil', 'clean'), ('oil', 'oil'), ('clean', 'clean', 'oil'), ('clean', 'nobody'), (None,), (('oil',),), (True,), (['oil'],)):
            self.wrong('names', 0, ((0, names),))
            self.wrong('names', 1, FREE[:1] + ((5, names), (5, ())))
            self.wrong('names', 2, FREE[:2] + ((8, names),))
        self.wrong('names', 0, ((0, ('a',)),), EMPTY)

    def test_task(self):
        self.wrong('task', (0, 0), ((0, ('oil',)), (0, ())))
        self.wrong('task', (0, 1), ((0, ('clean', 'oil')),))

    def test_task_at_several_places(self):
        # Behind a visit in the window the base is still to come, and nothing can be done up to it.
        self.wrong('task', (1, 1), ((4, ('oil',)), (5, ('clean', 'oil')), (6, ('oil',))))
        self.wrong('task', (2, 0), ((3, ('clean',)), (4, ('oil',)), (5, ('oil',))))
        self.same(lets_free(SITE, 9, ((3, ('clean',)), (4, ('oil',)), (6, ('oil',)))), (3, 6))
        # Two that cannot be done: the first one is told.
        site = SITE[:2] + ((OIL, ('rub',) + OIL[1:], ('wash',) + CLEAN[1:]),)
        self.wrong('task', (0, 0), ((0, ('oil', 'rub', 'wash')),), site)
        self.wrong('task', (1, 1), ((4, ('rub',)), (5, ('oil', 'rub', 'wash'))), site)

    def test_missed_behind_all(self):
        self.wrong('missed', -1, (), upto=7)
        self.wrong('missed', -1, FREE[:2], upto=10)
        self.wrong('missed', -1, FREE, upto=13)
        self.wrong('missed', -1, ((1, ('edge',)),), HARD, 2)

    def test_upto_first(self):
        for odd in NO_NUMBER:
            for thing, prices in product((FREE, None, ((-1, ()),)), (PRICES, None)):
                self.raises(NotUsable, {'word': 'upto', 'at': -1}, lets_free, SITE, odd, thing)
                self.raises(NotUsable, {'word': 'upto', 'at': -1}, cost_of, SITE, odd, thing, prices)
                self.raises(NotUsable, {'word': 'upto', 'at': -1}, cost_of, EMPTY, odd, thing, prices)


class TestSpoilt(Case):
    def test_one_and_two_places(self):
        random = Random(40)
        seen = {}
        for site in SITES:
            names = tuple(task[0] for task in site[2])
            for upto in (6, 12):
                for many in (0, 1, 1, 2, 2):
                    thing = spoilt(random, some_free(site, upto, random), names + (names[:1], (3, names[:1])), many)
                    fault = faults.free_fault(site, upto, thing)
                    word = 'none' if fault is None else fault[0]
                    seen[word] = seen.get(word, 0) + 1
                    if fault is None:
                        self.same(lets_free(site, upto, thing), freely.behind(site, upto, thing))
                    else:
                        self.raises(InvalidPaper, {'word': fault[0], 'at': fault[1]}, lets_free, site, upto, thing)
        self.same(set(seen) >= {'none', 'shape', 'day', 'missed', 'names', 'task'}, True)
        self.assertGreater(seen['none'], 40)


class TestCost(Case):
    def test_ordinary(self):
        self.same(cost_of(TWO, 20, ((10, ('belt', 'grease')),), PRICES), 10)
        self.same(cost_of(site=SITE, upto=9, free=FREE, prices=PRICES), 22)
        self.same(cost_of(SITE, 9, FREE, (0, (0, 0))), 0)
        self.same(cost_of(SITE, 9, FREE, (1, (0, 0))), 3)
        self.same([cost_of(SITE, 9, FREE, (0, works)) for works in ((1, 0), (0, 1), (0, 10 ** 59))], [1, 2, 2 * 10 ** 59])
        self.same((cost_of(SITE, 6, (), PRICES), cost_of(EMPTY, 60, (), (7, ()))), (0, 0))

    def test_as_defined(self):
        random = Random(7)
        for site in SITES:
            free = some_free(site, 10, random)
            if freely.behind(site, 10, free) is not None:
                prices = (random.randint(0, 5), tuple(random.randint(0, 4) for _ in site[2]))
                self.same(cost_of(site, 10, free, prices), sum(freely.cost(site, names, prices) for _, names in free))

    def test_prices_ahead_of_the_visits(self):
        for odd in NO_PRICES:
            for free in (FREE, None, ((3, ()),)):
                self.raises(NotUsable, {'word': 'prices', 'at': -1}, cost_of, SITE, 9, free, odd)
        for odd in (PRICES, (1, (0,)), None, (1,), (), (True, ())):
            self.raises(NotUsable, {'word': 'prices', 'at': -1}, cost_of, EMPTY, 9, (), odd)


class TestExamples(Case):
    def test_free(self):
        self.examples("""
    >>> TWO = SITE[:2] + ((('belt', 'saw', 'kept', ('days', 12), (0, 0, 0)), ('grease', 'pump', 'kept', ('days', 10), (0, 0, 0))),)
    >>> from whichfirst.freeing import can_do, lets_free
    >>> from whichfirst.planning import fewest_visits
    >>> from whichfirst.freecosts import best_free, early_saves, least_cost
    >>> [can_do(TWO, (0, 0), 10), lets_free(TWO, 20, ((10, ('belt', 'grease')),)), fewest_visits(TWO, 24), early_saves(TWO, 24)]
    [(('belt', 'anew'), ('grease', 'window')), (10, 10), (10, 12, 20), 1]
    >>> [least_cost(TWO, 20, (5, (3, 2))), best_free(TWO, 20, (5, (3, 2)))]
    [10, ((10, ('belt', 'grease')),)]
        """)
