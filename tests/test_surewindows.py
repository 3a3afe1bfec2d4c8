"""Windows in runs, and sure windows ([53], by [8] and [52], with the words on errors of [47]; [54]; (W5) of [9])."""

from itertools import product

from helpers import NO_NAME, NO_NUMBER, ODD, Case
from runs import all_runs, as_pair, in_run, some_bounds, sure_days, window_k
from sites import EMPTY, MOVES, SITE, one
from whichfirst.duedays import window_of, windows_of
from whichfirst.errors import NotUsable
from whichfirst.surewindows import apart_runs, run_window, sure_window

LOW, HIGH = (('lift', ((7, 0),)), ('mill', ((0, 0),))), (('lift', ((8, 2),)), ('mill', ((9, 9),)))
SLOW = (('lift', ((6, 0),)), ('mill', ((0, 0),)))
CASES = [(SITE, (LOW, HIGH)), (SITE, (SLOW, HIGH)), (SITE, (SITE[0], SITE[0]))] + some_bounds(90, 53)
KS = (0, 1, 2, 3, 7)
NO_RUN = tuple(value for value in ODD if value != ()) + (
    (), LOW[:1], LOW[1:], LOW[::-1], list(LOW), (LOW, HIGH), LOW + (('saw', ((0, 0),)),), (('lift', ((7, True),)), LOW[1]),
    (('lift', ((7, -1),)), LOW[1]), (('lift', ()), LOW[1]), (LOW[0], ('mil', LOW[1][1])), 'lift',
)
NO_BOUNDS = ODD + (
    LOW, (HIGH, LOW), [LOW, HIGH], (LOW, HIGH, HIGH), (LOW,), (LOW, HIGH[:1]), ((), ()), (list(LOW), HIGH), (LOW, None),
    ((('lift', ((7, 0), (7, 0))), LOW[1]), HIGH), (SITE[0], HIGH), (LOW, (('lift', ((8, True),)), HIGH[1])),
)
NO_KEPT = NO_NAME + (None, 'clean', 'pump', 'lift')


def kept_of(site):
    return [task for task in site[2] if task[2] == 'kept']


def all_cases(ks=KS):
    return [(site, bounds, task, k) for site, bounds in CASES for task in kept_of(site) for k in ks]


class TestRunWindow(Case):
    def test_ordinary(self):
        self.same([run_window(SITE, LOW, 'oil', k) for k in range(3)], [(5, 6), (10, 11), (15, 16)])
        self.same(run_window(k=0, name='oil', run=HIGH, site=SITE), (4, 6))
        self.same([run_window(SITE, SITE[0], 'oil', k) for k in (0, 1, 60)], [(4, 6), (9, 11), (304, 306)])

    def test_the_run_stands_for_the_machines(self):
        for site, bounds, task, k in all_cases((0,)):
            for run in all_runs(bounds)[:3]:
                self.same(run_window(site, run, task[0], 0), window_of(in_run(site, run), task[0], 0))

    def test_none(self):
        # No due day; a due day and no late one; nothing behind a base without a due day.
        site = one(('hours', 2), (1, 0, 0))
        self.same([run_window(site, (('one', ((0, 0),)),), 'task', k) for k in (0, 1, 9)], [None] * 3)
        stops = (('one', ((1, 0), (1, 0), (1, 0), (0, 0))),)
        self.same([run_window(site, stops, 'task', k) for k in (0, 1, 2)], [(1, None), None, None])
        # Without days, and so each one behind it.
        self.same([run_window(site, (('one', ((9, 0),)),), 'task', k) for k in (0, 1, 9)], [None] * 3)

    def test_a_base_that_is_its_own_due_day(self):
        site = one(('hours', 2), (1, 0, 0))
        stuck = (('one', ((1, 0), (1, 0), (3, 0))),)
        self.same([run_window(site, stuck, 'task', k) for k in (0, 1, 2, 60)], [(1, 2), (3, 3), (3, 3), (3, 3)])
        self.same(run_window(site, (('one', ((3, 0),)),), 'task', 10 ** 59), (1, 1))

    def test_days_counted_one_by_one(self):
        for site, bounds, task, k in all_cases():
            for run in bounds:
                told = window_k(in_run(site, run), task, k)
                self.same(run_window(site, run, task[0], k), as_pair(told))

    def test_the_windows_of_the_site(self):
        for site, _ in CASES:
            for task in kept_of(site):
                for k, (base, _, _, _) in enumerate(list(windows_of(site, task[0], 20))):
                    self.same(run_window(site, site[0], task[0], k), window_of(site, task[0], base))


class TestSureWindow(Case):
    def test_ordinary(self):
        self.same([sure_window(SITE, (LOW, HIGH), 'oil', k) for k in range(4)], [(5, 6), (10, 11), (15, 16), (20, 21)])
        self.same(sure_window(k=0, name='oil', bounds=(SLOW, HIGH), site=SITE), (6, 6))
        self.same(sure_window(SITE, (SLOW, HIGH), 'oil', 1), None)

    def test_all_runs(self):
        """The days that are in window k of all runs; if there are none, low and high show it."""
        empty = apart = 0
        for site, bounds, task, k in all_cases():
            want = as_pair(sure_days(site, bounds, task, k))
            self.same(sure_window(site, bounds, task[0], k), want)
            told = apart_runs(site, bounds, task[0], k)
            low, high = [window_k(in_run(site, run), task, k) for run in bounds]
            if want is not None:
                self.same(told, None)
                continue
            empty += 1
            self.same(told, (as_pair(low), as_pair(high)))
            if all(window_k(in_run(site, run), task, k) is not None for run in all_runs(bounds)):
                self.same(low & high, set())
                apart += bool(low and high)
        self.assertGreater(empty, 100)
        self.assertGreater(apart, 30)

    def test_low_and_high_alike(self):
        for site, bounds, task, k in all_cases():
            for run in bounds:
                self.same(sure_window(site, (run, run), task[0], k), run_window(site, run, task[0], k))

    def test_a_window_that_high_alone_has(self):
        site = one(('hours', 2), (1, 0, 0))
        bounds = ((('one', ((0, 0),)),), (('one', ((1, 0),)),))
        self.same([sure_window(site, bounds, 'task', 0), apart_runs(site, bounds, 'task', 0)], [None, (None, (1, 3))])
        bounds = ((('one', ((1, 0), (1, 0), (1, 0), (0, 0))),), (('one', ((1, 0),) * 4),))
        self.same([sure_window(site, bounds, 'task', k) for k in (0, 1)], [(1, 3), None])
        self.same([apart_runs(site, bounds, 'task', k) for k in (0, 1, 2)], [None, (None, (3, 5)), (None, (5, 7))])

    def test_a_window_that_goes_on_and_on(self):
        site = one(('hours', 2), (1, 0, 0))
        bounds = ((('one', ((0, 0), (3, 0), (0, 0))),), (('one', ((0, 0), (3, 0), (0, 0))),))
        self.same([sure_window(site, bounds, 'task', 0), apart_runs(site, bounds, 'task', 0)], [(2, None), None])

    def test_a_window_without_days(self):
        site = one(('hours', 2), (1, 0, 0))
        for bounds in (((('one', ((1, 0),)),), (('one', ((9, 0),)),)), ((('one', ((8, 0),)),), (('one', ((9, 0),)),))):
            self.same(sure_window(site, bounds, 'task', 0), None)
            self.same(apart_runs(site, bounds, 'task', 0)[1], None)


class TestConsequences(Case):
    def test_begins_with_low_and_ends_with_high(self):
        for site, bounds, task, k in all_cases():
            sure = sure_window(site, bounds, task[0], k)
            if sure is not None:
                low, high = [run_window(site, run, task[0], k) for run in bounds]
                self.same(sure, (low[0], high[1]))

    def test_narrower_bounds(self):
        for site, bounds, task, k in all_cases((0, 1, 2)):
            wide = sure_window(site, bounds, task[0], k)
            for run in all_runs(bounds)[1:-1:2]:
                for narrow in ((bounds[0], run), (run, bounds[1])):
                    sure = sure_window(site, narrow, task[0], k)
                    if wide is not None:
                        self.assertTrue(sure[0] <= wide[0] and (sure[1] is None or wide[1] is not None and sure[1] >= wide[1]))

    def test_with_more_use_none_ends_later(self):
        for site, bounds, task, k in all_cases((0, 1, 2)):
            low, high = [run_window(site, run, task[0], k) for run in bounds]
            if low is not None and high is not None:
                self.assertTrue(low[1] is None or high[1] is not None and high[1] <= low[1])


class TestWrong(Case):
    def wrong(self, word, call, *args):
        self.raises(NotUsable, {'word': word, 'at': -1}, call, *args)

    def test_run(self):
        for odd, name, k in product(NO_RUN, ('oil', None), (0, -1)):
            self.wrong('run', run_window, SITE, odd, name, k)
        self.wrong('run', run_window, EMPTY, LOW, 'oil', 0)

    def test_bounds(self):
        for odd, name, k in product(NO_BOUNDS, ('oil', None), (0, -1)):
            self.wrong('bounds', sure_window, SITE, odd, name, k)
            self.wrong('bounds', apart_runs, SITE, odd, name, k)

    def test_name(self):
        for odd, k in product(NO_KEPT, (0, -1, None)):
            self.wrong('name', run_window, SITE, LOW, odd, k)
            self.wrong('name', sure_window, SITE, (LOW, HIGH), odd, k)
            self.wrong('name', apart_runs, SITE, (LOW, HIGH), odd, k)
        self.wrong('name', run_window, EMPTY, (), 'oil', 0)
        self.wrong('name', sure_window, MOVES, (MOVES[0], MOVES[0]), 'rinse', 0)

    def test_k(self):
        for odd in NO_NUMBER:
            self.wrong('k', run_window, SITE, LOW, 'oil', odd)
            self.wrong('k', sure_window, SITE, (LOW, HIGH), 'oil', odd)
            self.wrong('k', apart_runs, SITE, (LOW, HIGH), 'oil', odd)


class TestExamples(Case):
    def test_windows(self):
        self.examples("""
    >>> from whichfirst.surewindows import apart_runs, run_window, sure_window
    >>> LOW, HIGH = (('lift', ((7, 0),)), ('mill', ((0, 0),))), (('lift', ((8, 2),)), ('mill', ((9, 9),)))
    >>> [run_window(SITE, LOW, 'oil', 0), run_window(SITE, HIGH, 'oil', 0), sure_window(SITE, (LOW, HIGH), 'oil', 1)]
    [(5, 6), (4, 6), (10, 11)]
    >>> SLOW = (('lift', ((6, 0),)), ('mill', ((0, 0),)))
    >>> [sure_window(SITE, (SLOW, HIGH), 'oil', 0), apart_runs(SITE, (SLOW, HIGH), 'oil', 1)]
    [(6, 6), ((12, 14), (9, 11))]
        """)
