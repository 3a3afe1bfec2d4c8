"""The checker of windows without a common day (lets_apart of [38], by [8]; [39]; the second half of (W2) of [9])."""

from itertools import combinations
from random import Random

import brute
import days
import faults
from helpers import NO_NUMBER, ODD, Case
from sites import EMPTY, MOVES, SITE, one
from spoil import spoilt
from test_apartness import SITES, STUCK, TWO, told
from whichfirst.apartchecker import lets_apart
from whichfirst.errors import InvalidPaper, NotUsable
from whichfirst.planning import how_few

MIXED = [SITE, MOVES] + days.small_sites(60, 39)
WIDE = one(('days', 2), (0, 0, 5))


def some_pairs(site, many=5):
    """All pairs (task, k) with k below many."""
    return [(task[0], k) for task in site[2] for k in range(many)]


class TestAccepted(Case):
    def test_ordinary(self):
        self.same(lets_apart(SITE, 20, (('oil', 0), ('oil', 2))), 2)
        self.same(lets_apart(thing=(('oil', 2), ('oil', 0), ('oil', 1)), upto=20, site=SITE), 3)
        self.same(lets_apart(TWO, 31, (('grease', 2), ('belt', 0), ('grease', 0), ('grease', 1), ('belt', 1))), 5)

    def test_no_pairs(self):
        for site in (SITE, EMPTY, STUCK):
            for upto in (0, 20, 10 ** 59):
                self.same(lets_apart(site, upto, ()), 0)

    def test_windows_behind_one_whose_base_is_its_due_day(self):
        # All of them are the one day 3.
        for k in (1, 2, 60, 10 ** 59):
            self.same(lets_apart(STUCK, 4, (('task', k),)), 1)

    def test_those_of_apart_windows(self):
        """They are accepted, and as many as the fewest visits."""
        seen = 0
        for site in SITES:
            for upto in (3, 8, 14):
                chosen = told(site, upto)
                if chosen is not None:
                    self.same(lets_apart(site, upto, chosen), len(chosen))
                    self.same(lets_apart(site, upto, chosen[::-1]), how_few(site, upto))
                    seen += len(chosen) > 1
        self.assertGreater(seen, 100)

    def test_no_visits_that_keep_are_fewer(self):
        """[39], by a look at all sets of pairs and of days, also for sites with fresh tasks."""
        seen = 0
        for site in MIXED[:40]:
            sets = brute.all_keeping(site, 8)
            if sets:
                for many in (1, 2, 3):
                    for pairs in combinations(some_pairs(site, 4), many):
                        if faults.apart_fault(site, 8, pairs) is None:
                            self.same(lets_apart(site, 8, pairs), many)
                            self.assertTrue(min(map(len, sets)) >= many)
                            seen += many > 1
        self.assertGreater(seen, 10)


class TestErrors(Case):
    def wrong(self, word, at, thing, site=SITE, upto=20):
        self.raises(InvalidPaper, {'word': word, 'at': at}, lets_apart, site, upto, thing)

    def test_shape(self):
        pair = ('oil', 0)
        for odd in [value for value in ODD if value not in ((), ((),)) and value != (None, None)] + [
            pair, [pair], (list(pair),), (pair, ('oil',)), (pair, ('oil', 1, 2)), (('nobody', -1), None), 'oil', (None, None), ((),), (pair, 'ab'),
        ]:
            self.wrong('shape', -1, odd)
            self.wrong('shape', -1, odd, EMPTY, 0)

    def test_task(self):
        for odd in ODD + ('clean', 'pump', 'nobody', ('oil',), 0):
            for k in (0, -1, None):
                self.wrong('task', 0, ((odd, k), ('nobody', 0)))
                self.wrong('task', 1, (('oil', 1), (odd, k)))
                self.wrong('task', 2, (('oil', 1), ('oil', 0), (odd, k), ('oil', 0)))
        self.wrong('task', 0, (('oil', 0),), EMPTY)

    def test_window(self):
        for odd in NO_NUMBER + ('x', [1]):
            self.wrong('window', 0, (('oil', odd), ('clean', 0)))
            self.wrong('window', 1, (('oil', 1), ('oil', odd)))
        # It ends on the last day, or behind it.
        for upto in (0, 5, 6):
            self.wrong('window', 0, (('oil', 0),), upto=upto)
        self.same(lets_apart(SITE, 7, (('oil', 0),)), 1)
        for k in (3, 4, 60, 10 ** 59):
            self.wrong('window', 1, (('oil', 0), ('oil', k)))

    def test_a_window_that_there_is_not(self):
        # A base without a due day; without any; one that goes on and on; one without a day.
        stops = one(('hours', 2), uses=((1, 0), (1, 0), (1, 0), (1, 0), (0, 0)))
        self.same(lets_apart(stops, 9, (('task', 0),)), 1)
        for k in (1, 2, 10 ** 59):
            self.wrong('window', 1, (('task', 0), ('task', k)), stops)
        self.wrong('window', 0, (('task', 0),), one(('hours', 1), uses=((0, 0),)), 60)
        goes_on = one(('hours', 2), (1, 0, 0), uses=((1, 0), (1, 0), (1, 0), (0, 0)))
        for k in (0, 1, 2):
            self.wrong('window', 0, (('task', k),), goes_on, 90)
        jumps = one(('hours', 5), uses=((6, 0),))
        for k in (0, 1, 10 ** 59):
            self.wrong('window', 0, (('task', k),), jumps, 9)

    def test_common(self):
        self.wrong('common', (0, 1), (('oil', 0), ('oil', 0)))
        self.wrong('common', (1, 3), (('oil', 0), ('oil', 1), ('oil', 2), ('oil', 1), ('oil', 0)))
        # Windows 1 to 7, 3 to 9, 5 to 11, 7 to 13, 9 to 15, 11 to 17.
        for k in (1, 2, 3):
            self.wrong('common', (0, 1), (('task', 0), ('task', k)), WIDE)
        self.same([lets_apart(WIDE, 20, (('task', 0), ('task', k))) for k in (4, 5)], [2, 2])
        self.wrong('common', (0, 2), (('task', 0), ('task', 4), ('task', 2)), WIDE)
        self.wrong('common', (1, 2), (('task', 0), ('task', 4), ('task', 5)), WIDE)
        self.wrong('common', (0, 1), (('task', 1), ('task', 10 ** 59)), STUCK, 9)
        # The first element that has one, and of this the first other.
        self.wrong('common', (0, 2), (('task', 0), ('task', 4), ('task', 1), ('clean', 0), ('task', None)), WIDE)

    def test_upto_first(self):
        for odd in NO_NUMBER:
            for thing in ((), None, (('oil', 0),), (('nobody', -1),)):
                for site in (SITE, EMPTY):
                    self.raises(NotUsable, {'word': 'upto', 'at': -1}, lets_apart, site, odd, thing)


class TestSpoilt(Case):
    def test_all_lists_of_pairs(self):
        """Accepted just if they are as stated, and otherwise the first error."""
        random = Random(38)
        seen = {}
        for site in MIXED + SITES[:40]:
            names = tuple(task[0] for task in site[2])
            for upto in (6, 13):
                pairs = some_pairs(site)
                random.shuffle(pairs)
                for thing in (tuple(pairs), tuple(pairs[:2]), tuple(pairs[:1]), tuple(pairs[-3:])):
                    for many in (0, 1, 2):
                        self.one(site, upto, spoilt(random, thing, names + (0, ('oil', 0)), many), seen)
        self.same(set(seen) >= {'none', 'shape', 'task', 'window', 'common'}, True)
        self.assertTrue(min(seen.values()) > 50)

    def one(self, site, upto, thing, seen):
        fault = faults.apart_fault(site, upto, thing)
        word = 'none' if fault is None else fault[0]
        seen[word] = seen.get(word, 0) + 1
        if fault is None:
            self.same(lets_apart(site, upto, thing), len(thing))
        else:
            self.raises(InvalidPaper, {'word': fault[0], 'at': fault[1]}, lets_apart, site, upto, thing)


class TestExamples(Case):
    def test_apart(self):
        self.examples("""
    >>> from whichfirst.apartchecker import lets_apart
    >>> from whichfirst.apartness import apart_windows
    >>> [apart_windows(SITE[:2] + ((OIL,),), 20), lets_apart(SITE, 20, (('oil', 0), ('oil', 2)))]
    [(('oil', 0), ('oil', 1), ('oil', 2)), 2]
        """)
