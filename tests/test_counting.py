"""Counts from day to day, and when they pass a limit ([22], the consequences [23])."""

from itertools import product

import days
import plain
from helpers import ODD, Case
from sites import MOVES, SITE, one
from whichfirst.counting import counts_between, passing_day
from whichfirst.errors import NotUsable

NO_DAY = (-1, True, False, None, '0', (), (0,), [0], -10 ** 59)
NO_PART = ODD + ('lift', 'oil', 'saws', ['saw'], ('saw',))
NO_LIMIT = ODD + (('hours', 0), ('later', ()), ['days', 1], ('first', (('days', 1), ('cycles', False))))
SITES = [SITE, MOVES] + days.small_sites(60, 22)
GREAT = 10 ** 59


class TestCounts(Case):
    def test_ordinary(self):
        self.same(counts_between(SITE, 'pump', 0, 1), (8, 2, 1))
        self.same(counts_between(SITE, 'pump', 3, 8), (40, 10, 5))
        self.same(counts_between(SITE, 'saw', 1, 4), (18, 0, 3))
        self.same(counts_between(last=5, first=3, part='saw', site=SITE), (14, 2, 2))

    def test_no_days(self):
        for site in SITES:
            for day in (0, 3, 4, 5, GREAT):
                self.same(counts_between(site, site[1][0][0], day, day), (0, 0, 0))

    def test_on_the_shelf(self):
        self.same(counts_between(MOVES, 'axle', 0, 50), (0, 0, 50))
        self.same(counts_between(MOVES, 'belt', 3, 7), (0, 0, 4))
        self.same(counts_between(MOVES, 'belt', 2, 7), (8, 2, 5))
        self.same(counts_between(MOVES, 'belt', 2, 8), (14, 2, 6))
        self.same(counts_between(MOVES, 'chain', 0, 6), (5, 0, 6))

    def test_a_stay_that_changes_and_the_days_beside_it(self):
        told = [counts_between(SITE, 'saw', day, day + 1) for day in (0, 1, 3, 4, 5)]
        self.same(told, [(2, 5, 1), (6, 0, 1), (6, 0, 1), (8, 2, 1), (8, 2, 1)])
        told = [counts_between(MOVES, 'disc', day, day + 1) for day in range(4)]
        self.same(told, [(1, 1, 1), (0, 3, 1), (8, 2, 1), (8, 2, 1)])

    def test_behind_the_last_use(self):
        self.same(counts_between(MOVES, 'chain', 5, 5 + GREAT), (5 * GREAT, 0, GREAT))
        self.same(counts_between(SITE, 'pump', GREAT, 3 * GREAT), (16 * GREAT, 4 * GREAT, 2 * GREAT))

    def test_days_counted_one_by_one(self):
        for site in SITES:
            for part, _ in site[1]:
                for first in range(0, 16):
                    for last in range(first, 18):
                        self.same(counts_between(site, part, first, last), days.counts(site, part, first, last))

    def test_two_stretches_together(self):
        for site in SITES[:20]:
            for part, _ in site[1]:
                for first, middle, last in product(range(0, 15, 2), repeat=3):
                    if first <= middle <= last:
                        pair = zip(counts_between(site, part, first, middle), counts_between(site, part, middle, last))
                        self.same(tuple(one + two for one, two in pair), counts_between(site, part, first, last))


class TestPassing(Case):
    def test_ordinary(self):
        # 40 hours are run by day 5 and passed on day 6, the first one with more.
        self.same([passing_day(SITE, 'pump', ('hours', n), 0) for n in (1, 7, 8, 39, 40)], [1, 1, 2, 5, 6])
        self.same(passing_day(SITE, 'pump', ('days', 7), 3), 11)
        self.same(passing_day(SITE, 'pump', ('cycles', 2), 10), 12)
        self.same(passing_day(base=0, limit=('hours', 20), part='saw', site=SITE), 5)

    def test_none(self):
        self.same(passing_day(MOVES, 'axle', ('hours', 1), 0), None)
        self.same(passing_day(MOVES, 'axle', ('later', (('hours', 1), ('days', 1))), 0), None)
        self.same(passing_day(MOVES, 'axle', ('first', (('hours', 1), ('days', 1))), 0), 2)
        self.same(passing_day(MOVES, 'chain', ('cycles', 1), 0), None)
        self.same(passing_day(MOVES, 'belt', ('cycles', 6), 0), None)
        self.same(passing_day(MOVES, 'belt', ('cycles', 5), 0), 3)

    def test_the_day_on_which_a_stay_ends(self):
        # The belt has 24 hours on day 3, stands still to day 7, and has 30 on day 8.
        self.same([passing_day(MOVES, 'belt', ('hours', n), 0) for n in (16, 23, 24, 29, 30)], [3, 3, 8, 8, 9])

    def test_days_counted_one_by_one(self):
        forms = [('hours', 1), ('hours', 7), ('hours', 30), ('cycles', 1), ('cycles', 4), ('days', 1), ('days', 9)]
        forms += [(word, pair) for word in ('first', 'later') for pair in product(forms[1::2], forms[::3])]
        forms += [('later', (('first', (forms[1], forms[4])), ('days', 3), ('first', (('cycles', 2),))))]
        for site in SITES:
            for (part, _), limit, base in product(site[1], forms, (0, 1, 4, 13)):
                self.same(passing_day(site, part, limit, base), days.passing(site, part, limit, base))

    def test_great_numbers(self):
        self.same(passing_day(SITE, 'pump', ('hours', 8 * GREAT), 0), GREAT + 1)
        self.same(passing_day(SITE, 'pump', ('hours', 8 * GREAT - 1), 5), GREAT + 5)
        self.same(passing_day(SITE, 'saw', ('cycles', 2 * GREAT), GREAT), 2 * GREAT + 1)
        self.same(passing_day(SITE, 'saw', ('days', GREAT), GREAT), 2 * GREAT + 1)

    def test_first_and_later(self):
        forms = [('hours', 5), ('cycles', 3), ('days', 4), ('first', (('hours', 9), ('days', 6)))]
        for site in SITES[:30]:
            for (part, _), base, many in product(site[1], (0, 5, 20), (1, 2, 3, 4)):
                told = [passing_day(site, part, limit, base) for limit in forms[:many]]
                known = [day for day in told if day is not None]
                self.same(passing_day(site, part, ('first', tuple(forms[:many])), base), min(known) if known else None)
                later = max(told) if len(known) == many else None
                self.same(passing_day(site, part, ('later', tuple(forms[:many])), base), later)

    def test_no_counts_of_a_day_to_itself_pass(self):
        for site in SITES:
            for part, _ in site[1]:
                for base, limit in product((0, 3, 12), (('hours', 1), ('first', (('cycles', 1), ('days', 1))))):
                    self.assertFalse(plain.passes(limit, counts_between(site, part, base, base)))
                    told = passing_day(site, part, limit, base)
                    self.assertTrue(told is None or told > base)

    def test_on_the_shelf_from_the_base_on(self):
        shelf = one(('days', 1))[:1] + ((('one', ((0, 'one'), (6, None))),),) + ((),)
        for base, n in product((6, 7, 40), (1, 5, 60)):
            self.same(passing_day(shelf, 'one', ('hours', n), base), None)
            self.same(passing_day(shelf, 'one', ('cycles', n), base), None)
            self.same(passing_day(shelf, 'one', ('days', n), base), base + n + 1)
        self.same(passing_day(shelf, 'one', ('hours', 1), 5), None)
        self.same(passing_day(shelf, 'one', ('hours', 1), 4), 6)


class TestWrong(Case):
    def wrong(self, word, call, *args):
        self.raises(NotUsable, {'word': word, 'at': -1}, call, *args)

    def test_part(self):
        for odd in NO_PART:
            self.wrong('part', counts_between, SITE, odd, 0, 1)
            self.wrong('part', counts_between, SITE, odd, -1, None)
            self.wrong('part', passing_day, SITE, odd, ('days', 1), 0)
            self.wrong('part', passing_day, SITE, odd, None, True)

    def test_first_and_last(self):
        for odd in NO_DAY:
            self.wrong('first', counts_between, SITE, 'saw', odd, 5)
            self.wrong('first', counts_between, SITE, 'saw', odd, odd)
            self.wrong('last', counts_between, SITE, 'saw', 0, odd)
        for first, last in ((1, 0), (5, 4), (GREAT, GREAT - 1)):
            self.wrong('last', counts_between, SITE, 'saw', first, last)

    def test_limit_and_base(self):
        for odd in NO_LIMIT:
            self.wrong('limit', passing_day, SITE, 'saw', odd, 0)
            self.wrong('limit', passing_day, SITE, 'saw', odd, -1)
        for odd in NO_DAY:
            self.wrong('base', passing_day, SITE, 'saw', ('days', 1), odd)


class TestExamples(Case):
    def test_counts(self):
        self.examples("""
    >>> from whichfirst.counting import counts_between, passing_day
    >>> [counts_between(SITE, 'saw', 0, 5), passing_day(SITE, 'saw', ('hours', 20), 0)]
    [(28, 7, 5), 5]
    >>> passing_day(SITE, 'saw', ('later', (('hours', 20), ('cycles', 9))), 1)
    9
        """)
