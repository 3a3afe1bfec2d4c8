"""Exchanges ([58], [59], with the words on errors of [47]; the consequences [60]; (W6) of [9])."""

from itertools import islice
from random import Random

import days
from helpers import NO_NUMBER, ODD, Case
from sites import EMPTY, MOVES, SITE
from whichfirst.duedays import late_day
from whichfirst.errors import NotUsable
from whichfirst.exchanges import all_exchanges, best_exchange, first_late
from whichfirst.sitechanges import exchanged
from whichfirst.siteparts import place_of

NO_BASES = ODD + ((0,), (0, 0, 0), [0, 0], (0, -1), (-1, 0), (True, 0), (0, False), (0, None), ('0', 0), 'ab', ((0, 0),))
FAR = 70


def more_parts(site, random):
    """The site with two parts more, on which some of the tasks are."""
    places = [machine for machine, _ in site[0]] + [None]
    parts = site[1] + tuple((name, days.random_stays(random, places)) for name in ('table', 'wheel'))
    tasks = tuple(task[:1] + (random.choice(('pump', 'saw', 'table', 'wheel')),) + task[2:] for task in site[2])
    return (site[0], parts, tasks)


RANDOM = Random(58)
SITES = [SITE, MOVES, EMPTY, SITE[:2] + ((),), ((), (), ())] + days.small_sites(30, 59)
SITES += [more_parts(site, RANDOM) for site in days.small_sites(40, 60)]


def cases():
    """Sites with some bases and days."""
    random = Random(61)
    return [(site, tuple(random.randint(0, 9) for _ in site[2]), random.randint(0, 12)) for site in SITES for _ in range(3)]


def plain_late(site, bases):
    """The first late day with days counted one by one."""
    late = [days.early_due_late(site, task, base)[2] for task, base in zip(site[2], bases)]
    return min([day for day in late if day is not None], default=None)


def plain_exchanged(site, pair, day):
    """The site with the places of each day written out."""
    stays = dict(site[1])
    told = dict(stays)
    for part, other in (pair, pair[::-1]) if pair else ():
        told[part] = tuple((at, days.place(stays[part if at < day else other], at)) for at in range(FAR))
    return (site[0], tuple(sorted(told.items())), site[2])


def exchanges_of(site):
    parts = [part for part, _ in site[1]]
    return [()] + [(part, other) for part in parts for other in parts if part < other]


class TestFirstLate(Case):
    def test_ordinary(self):
        self.same([first_late(SITE, bases) for bases in ((3, 0), (0, 0), (9, 20), (6, 5))], [6, 6, 15, 11])
        self.same(first_late(bases=(3, 10 ** 59), site=SITE), 9)

    def test_none(self):
        self.same((first_late(EMPTY, ()), first_late(MOVES[:2] + (MOVES[2][:1],), (4,))), (None, None))
        self.same(first_late(MOVES[:2] + (MOVES[2][::3],), (4, 7)), 11)

    def test_as_defined(self):
        for site, bases, _ in cases():
            self.same(first_late(site, bases), plain_late(site, bases))


class TestAll(Case):
    def test_ordinary(self):
        self.same(list(all_exchanges(SITE, (3, 0), 0)), [((), 6), (('pump', 'saw'), 7)])
        self.same(list(all_exchanges(day=9, bases=(3, 0), site=SITE)), [((), 6), (('pump', 'saw'), 6)])
        self.same(list(all_exchanges(EMPTY, (), 5)), [((), None)])
        pairs = [pair for pair, _ in all_exchanges(MOVES, (0, 0, 0, 0), 2)]
        self.same(pairs, [()] + [(a, b) for a in ('axle', 'belt', 'chain', 'disc') for b in ('axle', 'belt', 'chain', 'disc') if a < b])

    def test_plain_look(self):
        """Each exchange by the places of each day."""
        for site, bases, day in cases():
            want = [(pair, plain_late(plain_exchanged(site, pair, day), bases)) for pair in exchanges_of(site)]
            self.same(list(all_exchanges(site, bases, day)), want)

    def test_left_early_and_gone_through_twice_at_once(self):
        rows = all_exchanges(SITE, (3, 0), 0)
        self.same(list(islice(rows, 1)), [((), 6)])
        rows.close()
        one, two = all_exchanges(SITE, (3, 0), 0), all_exchanges(SITE, (3, 0), 0)
        self.same([next(one), next(two), next(two), next(one)], [((), 6), ((), 6), (('pump', 'saw'), 7), (('pump', 'saw'), 7)])

    def test_errors_when_the_first_one_is_asked_for(self):
        rows = all_exchanges(SITE, None, None)
        self.raises(NotUsable, {'word': 'bases', 'at': -1}, next, rows)


class TestBest(Case):
    def test_ordinary(self):
        self.same(best_exchange(SITE, (3, 0), 0), (7, (('pump', 'saw'),)))
        self.same(best_exchange(SITE, (3, 0), 9), (6, ((), ('pump', 'saw'))))
        self.same(best_exchange(day=0, bases=(), site=EMPTY), (None, ((),)))

    def test_none_is_above_all_days(self):
        # On the shelf the wheel is never late.
        parts = (('pump', ((0, 'lift'),)), ('saw', ((0, None),)))
        site = (SITE[0], parts, (('oil', 'pump', 'fresh', ('hours', 9), (0, 0, 0)),))
        self.same(list(all_exchanges(site, (0,), 1)), [((), 1), (('pump', 'saw'), None)])
        self.same(best_exchange(site, (0,), 1), (None, (('pump', 'saw'),)))

    def test_plain_look(self):
        seen = 0
        for site, bases, day in cases():
            rows = [(plain_late(plain_exchanged(site, pair, day), bases), pair) for pair in exchanges_of(site)]
            best = max(rows, key=lambda row: (row[0] is None, row[0] or 0))[0]
            self.same(best_exchange(site, bases, day), (best, tuple(pair for late, pair in rows if late == best)))
            seen += best != rows[0][0]
        self.assertGreater(seen, 20)


class TestConsequences(Case):
    def test_never_less_than_without(self):
        for site, bases, day in cases():
            best, without = best_exchange(site, bases, day)[0], first_late(site, bases)
            self.assertTrue(best is None or without is not None and best >= without)

    def test_behind_all_late_days(self):
        for site, bases, _ in cases():
            late = [late_day(site, task[0], base) for task, base in zip(site[2], bases)]
            day = max([at for at in late if at is not None], default=0) + 1
            for pair in exchanges_of(site)[1:]:
                other = exchanged(site, *pair, day)
                for task, base, at in zip(site[2], bases, late):
                    self.assertTrue(at is None or late_day(other, task[0], base) == at)

    def test_in_the_same_places_for_nothing(self):
        seen = 0
        for site, bases, day in cases():
            told = dict(all_exchanges(site, bases, day))
            for pair in exchanges_of(site)[1:]:
                places = [[place_of(site, part, at) for at in range(day, 40)] for part in pair]
                if places[0] == places[1]:
                    self.same(told[pair], told[()])
                    seen += 1
        self.assertGreater(seen, 10)

    def test_limits_of_days_alone(self):
        for site, bases, day in cases():
            tasks = tuple(task[:3] + (('later', (('days', 3), ('days', 5))), task[4]) for task in site[2])
            site = site[:2] + (tasks,)
            self.same({late for _, late in all_exchanges(site, bases, day)}, {first_late(site, bases)})


class TestWrong(Case):
    def test_bases(self):
        for odd in NO_BASES:
            self.raises(NotUsable, {'word': 'bases', 'at': -1}, first_late, SITE, odd)
            for day in (0, -1, None, True):
                self.raises(NotUsable, {'word': 'bases', 'at': -1}, list_of, SITE, odd, day)
                self.raises(NotUsable, {'word': 'bases', 'at': -1}, best_exchange, SITE, odd, day)
            if odd != ():
                self.raises(NotUsable, {'word': 'bases', 'at': -1}, first_late, EMPTY, odd)

    def test_day(self):
        for odd in NO_NUMBER:
            for site, bases in ((SITE, (0, 0)), (EMPTY, ())):
                self.raises(NotUsable, {'word': 'day', 'at': -1}, list_of, site, bases, odd)
                self.raises(NotUsable, {'word': 'day', 'at': -1}, best_exchange, site, bases, odd)


def list_of(*args):
    return list(all_exchanges(*args))


class TestExamples(Case):
    def test_exchanges(self):
        self.examples("""
    >>> from whichfirst.exchanges import all_exchanges, best_exchange, first_late
    >>> [first_late(SITE, (3, 0)), list(all_exchanges(SITE, (3, 0), 0)), best_exchange(SITE, (3, 0), 9)]
    [6, [((), 6), (('pump', 'saw'), 7)], (6, ((), ('pump', 'saw')))]
        """)
