"""Windows without a common day ([38], by [8]; the consequences [39]; (W2) of [9])."""

from itertools import combinations

import brute
import days
from helpers import NO_NUMBER, Case
from sites import CLEAN, EMPTY, MOVES, OIL, SITE, one
from whichfirst.apartness import apart_windows
from whichfirst.errors import NeverKept, NotUsable
from whichfirst.planning import fewest_visits, how_few

OILED = SITE[:2] + ((OIL,),)
HARD = ((('mill', ((2, 0), (20, 0))),), (('saw', ((0, 'mill'),)),), (('edge', 'saw', 'kept', ('hours', 9), (0, 0, 0)),))
TWO = SITE[:2] + ((('belt', 'saw', 'kept', ('days', 12), (0, 0, 0)), ('grease', 'pump', 'kept', ('days', 10), (0, 0, 0))),)
STUCK = one(('hours', 2), (1, 0, 0), uses=((1, 0), (1, 0), (3, 0)))


def kept_alone(site):
    return site[:2] + (tuple(task[:2] + ('kept',) + task[3:] for task in site[2]),)


SITES = [OILED, MOVES[:2] + (MOVES[2][:2] + MOVES[2][3:],), HARD, TWO, STUCK] + [kept_alone(site) for site in days.small_sites(150, 38)]


def window_days(site, name, k):
    """The days of window k, and its last day, None if it goes on and on; None if there is no such window."""
    task = next(task for task in site[2] if task[0] == name)
    base = 0
    for _ in range(k):
        base = days.early_due_late(site, task, base)[1]
        if base is None:
            return None
    told = days.window(site, task, base)
    return told and (set(told[0]), None if told[1] else told[0][-1])


def all_windows(site, upto):
    """All pairs whose windows have a day and end ahead of a day, with the days of the windows."""
    found = {}
    for task in site[2]:
        for k in range(upto + 1):
            told = window_days(site, task[0], k)
            if told and told[1] is not None and told[1] < upto:
                found[(task[0], k)] = told[0]
    return found


def told(site, upto):
    try:
        return apart_windows(site, upto)
    except NeverKept:
        return None


def are_apart(windows):
    return all(not one_window & other for one_window, other in combinations(windows, 2))


class TestApart(Case):
    def test_ordinary(self):
        self.same(apart_windows(OILED, 20), (('oil', 0), ('oil', 1), ('oil', 2)))
        self.same([apart_windows(OILED, upto) for upto in (0, 6, 7, 11)], [(), (), (('oil', 0),), (('oil', 0),)])
        self.same(apart_windows(upto=12, site=OILED), (('oil', 0), ('oil', 1)))
        # The windows of a task are single days here: 12 and 24, 10 and 20 and 30.
        self.same(apart_windows(TWO, 31), (('belt', 0), ('belt', 1), ('grease', 0), ('grease', 1), ('grease', 2)))

    def test_windows_of_one_task_with_a_common_day(self):
        site = one(('days', 2), (0, 0, 5))
        self.same(apart_windows(site, 30), (('task', 0), ('task', 4), ('task', 8)))

    def test_none(self):
        self.same([apart_windows(site, 60) for site in (EMPTY, SITE[:2] + ((),), one(('hours', 1), uses=((0, 0),)))], [(), (), ()])
        self.same(apart_windows(EMPTY, 10 ** 59), ())

    def test_a_window_that_goes_on_and_on(self):
        # The limit is passed on day 3, the widened one never.
        site = one(('hours', 2), (1, 0, 0), uses=((1, 0), (1, 0), (1, 0), (0, 0)))
        self.same(window_days(site, 'task', 0)[1], None)
        self.same(apart_windows(site, 90), ())

    def test_a_window_without_days(self):
        self.same(apart_windows(HARD, 1), ())
        self.raises(NeverKept, {'task': 'edge', 'day': 1}, apart_windows, HARD, 2)
        # Window 1 of base 2 is that of day 3, and so are all behind it.
        self.same([apart_windows(STUCK, upto) for upto in (2, 3)], [(), (('task', 0),)])
        self.raises(NeverKept, {'task': 'task', 'day': 3}, apart_windows, STUCK, 4)

    def test_as_defined(self):
        seen = 0
        for site in SITES:
            for upto in (3, 8, 14):
                chosen = told(site, upto)
                if chosen is None:
                    continue
                windows = all_windows(site, upto)
                self.same(tuple(sorted(set(chosen))), chosen)
                self.assertTrue(set(chosen) <= set(windows))
                self.assertTrue(are_apart([windows[pair] for pair in chosen]))
                if len(windows) < 11:
                    more = combinations(windows, len(chosen) + 1)
                    self.assertFalse(any(are_apart([windows[pair] for pair in pairs]) for pairs in more))
                    seen += len(chosen) > 1
        self.assertGreater(seen, 30)

    def test_as_many_as_the_fewest_visits(self):
        """[39] and (W2), the visits also counted over all days."""
        never = 0
        for site in SITES:
            for upto in (2, 9, 19):
                chosen = told(site, upto)
                if chosen is None:
                    never += 1
                    self.same(brute.fewest(site, upto), None)
                    self.raises_as_planning(site, upto)
                else:
                    self.same((how_few(site, upto), brute.fewest(site, upto)), (len(chosen),) * 2)
        self.assertGreater(never, 20)

    def raises_as_planning(self, site, upto):
        with self.assertRaises(NeverKept) as caught:
            fewest_visits(site, upto)
        self.raises(NeverKept, vars(caught.exception), apart_windows, site, upto)

    def test_no_visits_that_keep_are_fewer_than_windows_apart(self):
        for site in SITES[:60]:
            windows = all_windows(site, 7)
            for visits in brute.all_keeping(site, 7):
                for many in (1, 2, 3):
                    for pairs in combinations(windows, many):
                        self.assertTrue(not are_apart([windows[pair] for pair in pairs]) or len(visits) >= many)


class TestWrong(Case):
    def test_a_fresh_task_first(self):
        for site in (SITE, MOVES, SITE[:2] + ((CLEAN,),), one(('hours', 5), way='fresh', uses=((6, 0),))):
            for upto in (0, 9, -1, None, True):
                self.raises(NotUsable, {'word': 'site', 'at': -1}, apart_windows, site, upto)

    def test_upto(self):
        for site in (OILED, HARD, EMPTY):
            for odd in NO_NUMBER:
                self.raises(NotUsable, {'word': 'upto', 'at': -1}, apart_windows, site, odd)


class TestExamples(Case):
    def test_apart(self):
        self.examples("""
    >>> from whichfirst.apartness import apart_windows
    >>> apart_windows(SITE[:2] + ((OIL,),), 20)
    (('oil', 0), ('oil', 1), ('oil', 2))
        """)
