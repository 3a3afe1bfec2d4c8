"""Sure visits ([55], [56], with the words on errors of [47]; (W5) of [9])."""

from itertools import combinations, product

import brute
import days
from helpers import NO_NUMBER, Case
from runs import all_runs, days_of_k, in_run, some_bounds, sure_days
from sites import EMPTY, MOVES, OIL, SITE, one
from test_surewindows import NO_BOUNDS
from whichfirst.errors import NeverKept, NotUsable
from whichfirst.goingby import are_kept
from whichfirst.planning import fewest_visits
from whichfirst.surevisits import sure_visits

LOW, HIGH = (('lift', ((7, 0),)), ('mill', ((0, 0),))), (('lift', ((8, 2),)), ('mill', ((9, 9),)))
SLOW = (('lift', ((6, 0),)), ('mill', ((0, 0),)))
CASES = [(SITE, (LOW, HIGH)), (SITE, (SLOW, HIGH)), (SITE, (SITE[0], SITE[0])), (EMPTY, ((), ()))] + some_bounds(90, 56)
OILED = SITE[:2] + ((OIL,),)


def fresh_lates(site, bounds, upto):
    """For each run and each fresh task the list of the late days by the day on which it is done."""
    fresh = [task for task in site[2] if task[2] == 'fresh']
    sites = [in_run(site, run) for run in all_runs(bounds)]
    return [[days.early_due_late(told, task, base)[2] for base in range(upto + 1)] for told in sites for task in fresh]


def is_missed(lates, visits, upto):
    """Whether a fresh task with these late days is missed by some visits."""
    base = 0
    for day in visits + (upto,):
        if lates[base] is not None and lates[base] < day:
            return True
        base = day
    return False


def counts(site, run, task, k, upto):
    """Whether a run has window k of a task, and it ends ahead of upto there."""
    told = days_of_k(in_run(site, run), task, k)
    return told is not None and told[3] is not None and told[3] < upto


def needed_days(site, bounds, upto):
    """The sure windows, as sets of days, of all windows that count; None if high has one whose base is its due day."""
    found = []
    for task in site[2]:
        if task[2] == 'kept':
            for k in range(upto + 1):
                if any(counts(site, run, task, k, upto) for run in all_runs(bounds)):
                    base, _, due, _ = days_of_k(in_run(site, bounds[1]), task, k)
                    if base == due:
                        return None
                    found.append(sure_days(site, bounds, task, k))
    return found


def all_sure(site, bounds, upto):
    """All sets of days that are sure visits, the smaller ones first, each looked at in all runs."""
    needed = needed_days(site, bounds, upto)
    fresh = fresh_lates(site, bounds, upto)
    if needed is None or set() in needed:
        return []
    found = []
    for many in range(upto + 2):
        for visits in combinations(range(upto + 1), many):
            if all(told & set(visits) for told in needed):
                if not any(is_missed(lates, visits, upto) for lates in fresh):
                    found.append(visits)
    return found


class TestSure(Case):
    def test_ordinary(self):
        self.same(sure_visits(SITE, (LOW, HIGH), 20), (6, 11, 16))
        self.same(sure_visits(bounds=(LOW, HIGH), upto=6, site=SITE), ())
        self.same([sure_visits(SITE, (SLOW, HIGH), upto) for upto in (6, 7, 11, 12)], [(), (6,), (6,), None])
        self.same(sure_visits(OILED, (LOW, HIGH), 12), (6, 11))

    def test_upto_0(self):
        for site, bounds in CASES:
            self.same(sure_visits(site, bounds, 0), ())

    def test_without_tasks(self):
        self.same([sure_visits(EMPTY, ((), ()), upto) for upto in (0, 60, 10 ** 59)], [()] * 3)
        self.same(sure_visits(SITE[:2] + ((),), (LOW, HIGH), 60), ())

    def test_a_fresh_task_that_is_missed_at_once(self):
        site = one(('hours', 5), way='fresh')
        bounds = ((('one', ((1, 0),)),), (('one', ((6, 0),)),))
        self.same([sure_visits(site, bounds, upto) for upto in (0, 1, 2)], [(), None, None])
        self.same(sure_visits(site, (bounds[0], bounds[0]), 14), (5, 10))

    def test_a_due_day_that_is_its_base(self):
        # Each visit lies in the window of high behind base 0, which stays.
        site = one(('hours', 2), (1, 0, 0))
        bounds = ((('one', ((2, 0),)),), (('one', ((3, 0),)),))
        self.same([sure_visits(site, bounds, upto) for upto in (0, 1, 2, 3)], [(), (), None, None])
        low = bounds[0]
        self.same(sure_visits(site, (low, low), 4), (1, 2, 3))

    def test_a_window_that_low_has_not(self):
        site = one(('hours', 2), (1, 0, 0))
        bounds = ((('one', ((0, 0),)),), (('one', ((1, 0),)),))
        self.same([sure_visits(site, bounds, upto) for upto in (3, 4)], [(), None])

    def test_one_visit_for_several_windows(self):
        site = one(('days', 2), (0, 0, 5))
        self.same(sure_visits(site, (site[0], site[0]), 20), (7, 15))

    def test_all_sets_of_days(self):
        """They are among all that are sure as defined, and as few as can be."""
        never = some = 0
        for site, bounds in CASES:
            for upto in (4, 8):
                told = sure_visits(site, bounds, upto)
                want = all_sure(site, bounds, upto)
                if told is None:
                    never += 1
                    self.same(want, [])
                else:
                    some += len(told) > 1
                    self.assertTrue(isinstance(told, tuple) and told in want)
                    self.same(len(told), len(want[0]))
        self.assertGreater(never, 20)
        self.assertGreater(some, 20)

    def test_they_keep_the_site_in_all_runs(self):
        for site, bounds in CASES[:40]:
            for upto in (2, 4):
                for visits in all_sure(site, bounds, upto):
                    for run in all_runs(bounds):
                        self.assertTrue(are_kept(in_run(site, run), visits, upto))

    def test_later_days_in_all_runs(self):
        kept = 0
        for site, bounds in CASES:
            for upto in (15, 24):
                visits = sure_visits(site, bounds, upto)
                if visits is not None:
                    kept += len(visits) > 2
                    self.same(sorted(set(visits)), list(visits))
                    for run in all_runs(bounds):
                        self.assertTrue(are_kept(in_run(site, run), visits, upto))
                        self.assertTrue(brute.keep(in_run(site, run), visits, upto))
        self.assertGreater(kept, 25)

    def test_a_window_counts_just_if_that_of_high_does(self):
        for site, bounds in CASES:
            for task, k, upto in product(site[2], range(4), (3, 7, 12)):
                if task[2] == 'kept':
                    told = any(counts(site, run, task, k, upto) for run in all_runs(bounds))
                    self.same(told, counts(site, bounds[1], task, k, upto))

    def test_low_and_high_alike(self):
        """With one run alone sure visits are the fewest ones, where the site has kept tasks that are not stuck."""
        for site, bounds in CASES:
            for upto in (6, 16):
                run = bounds[1]
                try:
                    visits = fewest_visits(in_run(site, run), upto)
                except NeverKept:
                    visits = None
                told = sure_visits(site, (run, run), upto)
                self.same(told is None, visits is None)
                self.assertTrue(told is None or len(told) == len(visits))


class TestWrong(Case):
    def test_bounds(self):
        for odd, upto in product(NO_BOUNDS, (0, -1, None)):
            self.raises(NotUsable, {'word': 'bounds', 'at': -1}, sure_visits, SITE, odd, upto)
        self.raises(NotUsable, {'word': 'bounds', 'at': -1}, sure_visits, EMPTY, (LOW, HIGH), 3)

    def test_upto(self):
        for odd in NO_NUMBER:
            self.raises(NotUsable, {'word': 'upto', 'at': -1}, sure_visits, SITE, (LOW, HIGH), odd)
            self.raises(NotUsable, {'word': 'upto', 'at': -1}, sure_visits, EMPTY, ((), ()), odd)


class TestExamples(Case):
    def test_sure(self):
        self.examples("""
    >>> LOW, HIGH = (('lift', ((7, 0),)), ('mill', ((0, 0),))), (('lift', ((8, 2),)), ('mill', ((9, 9),)))
    >>> SLOW = (('lift', ((6, 0),)), ('mill', ((0, 0),)))
    >>> from whichfirst.surevisits import sure_visits
    >>> [len(sure_visits(SITE, (LOW, HIGH), 20)), sure_visits(SITE, (SLOW, HIGH), 12), sure_visits(SITE, (SLOW, HIGH), 11)]
    [3, None, (6,)]
        """)
