"""Due, late and early days and windows ([24], [25], by [5]; the consequences [26]; (W1) of [9])."""

from itertools import islice, product
from random import Random

import days
from helpers import ODD, Case
from sites import EMPTY, MOVES, SITE, one
from whichfirst.counting import passing_day
from whichfirst.duedays import due_day, early_day, late_day, window_of, windows_of
from whichfirst.errors import NotUsable
from whichfirst.limitparts import widened

NO_DAY = (-1, True, False, None, '0', (), (0,), [0], -10 ** 59)
NO_NAME = ODD + ('pump', 'lift', 'oils', ['oil'], ('oil',))
SITES = [SITE, MOVES] + days.small_sites(150, 24)
BASES = (0, 1, 2, 5, 9, 14, 23)
GREAT = 10 ** 59


def three(site, name, base):
    return (early_day(site, name, base), due_day(site, name, base), late_day(site, name, base))


def all_tasks():
    return [(site, task, base) for site in SITES for task in site[2] for base in BASES]


def no_less(day, other):
    """Whether a day is not ahead of another one, None being behind all."""
    return day is None or other is not None and day >= other


class TestDays(Case):
    def test_ordinary(self):
        self.same(three(SITE, 'oil', 0), (4, 5, 6))
        self.same(three(SITE, 'oil', 5), (9, 10, 11))
        self.same(three(SITE, 'clean', 0), (6, 6, 6))
        self.same(due_day(site=SITE, name='clean', base=GREAT), GREAT + 6)
        self.same(early_day(site=SITE, name='oil', base=3), 7)
        self.same(late_day(site=SITE, name='oil', base=3), 9)

    def test_days_counted_one_by_one(self):
        for site, task, base in all_tasks():
            self.same(three(site, task[0], base), days.early_due_late(site, task, base))

    def test_no_due_day_no_late_day_no_early_day(self):
        self.same(three(MOVES, 'check', 0), (None, None, None))
        # One hour a day for three days, then none: the limit is passed, the widened one is not.
        stops = ((1, 0), (1, 0), (1, 0), (0, 0))
        self.same(three(one(('hours', 2), (1, 0, 0), uses=stops), 'task', 0), (1, 2, None))
        # The limit is reached and not passed.
        self.same(three(one(('hours', 3), (0, 0, 0), uses=stops), 'task', 0), (3, None, None))
        self.same(three(one(('hours', 4), (0, 0, 0), uses=stops), 'task', 0), (None, None, None))
        self.same(three(one(('hours', 4), (1, 0, 0), uses=stops), 'task', 0), (3, None, None))

    def test_one_days_use_passes_the_limit(self):
        self.same(three(one(('hours', 5), uses=((6, 0),)), 'task', 4), (4, 4, 4))
        self.same(three(one(('hours', 5), (1, 0, 0), uses=((6, 0),)), 'task', 4), (5, 4, 5))
        self.same(three(one(('hours', 5), (3, 0, 0), uses=((9, 0),)), 'task', 4), (4, 4, 4))

    def test_a_slack_greater_than_the_number(self):
        self.same(three(one(('days', 3), (0, 0, 9)), 'task', 0), (1, 3, 12))
        self.same(three(one(('days', 3), (0, 0, 3)), 'task', 7), (8, 10, 13))
        self.same(three(one(('hours', 3), (50, 0, 0), uses=((0, 0),)), 'task', 7), (8, None, None))
        self.same(three(one(('hours', 3), (50, 0, 0), uses=((60, 0),)), 'task', 7), (7, 7, 7))

    def test_great_numbers(self):
        site = one(('first', (('hours', 4 * GREAT), ('days', 3 * GREAT))), (GREAT, 0, 0), uses=((2, 0),))
        self.same(three(site, 'task', GREAT), (GREAT + (3 * GREAT + 1) // 2, 3 * GREAT, GREAT + 5 * GREAT // 2))


class TestWindow(Case):
    def test_ordinary(self):
        self.same([window_of(SITE, 'oil', base) for base in (0, 5, 10)], [(4, 6), (9, 11), (14, 16)])
        self.same(window_of(site=SITE, name='oil', base=5), (9, 11))
        self.same(window_of(one(('days', 3)), 'task', 4), (7, 7))

    def test_a_fresh_task_has_none(self):
        for base in BASES:
            self.same(window_of(SITE, 'clean', base), None)
            self.same(window_of(MOVES, 'rinse', base), None)

    def test_no_due_day_no_window(self):
        stops = ((1, 0), (1, 0), (1, 0), (0, 0))
        self.same(window_of(one(('hours', 3), uses=stops), 'task', 0), None)
        self.same(window_of(MOVES, 'check', 5), None)

    def test_without_days(self):
        self.same(window_of(one(('hours', 5), uses=((6, 0),)), 'task', 4), None)
        self.same(window_of(one(('hours', 5), (1, 0, 0), uses=((6, 0),)), 'task', 4), (5, 5))

    def test_on_and_on(self):
        stops = ((1, 0), (1, 0), (1, 0), (0, 0))
        self.same(window_of(one(('hours', 2), (1, 0, 0), uses=stops), 'task', 0), (1, None))
        self.same(window_of(one(('hours', 1), (2, 0, 0), uses=stops), 'task', 1), (2, None))
        self.same(window_of(one(('hours', 1), (1, 0, 0), uses=stops), 'task', 0), (1, 2))

    def test_days_counted_one_by_one(self):
        for site, task, base in all_tasks():
            told = days.window(site, task, base)
            want = None if told is None else (told[0][0], None if told[1] else told[0][-1])
            self.same(window_of(site, task[0], base), want)
            if told is not None and not told[1]:
                self.assertEqual(told[0], list(range(want[0], want[1] + 1)))


class TestWindows(Case):
    def test_ordinary(self):
        self.same(list(windows_of(SITE, 'oil', 4)), [(0, 4, 6, 5)])
        self.same(list(windows_of(SITE, 'oil', 5)), [(0, 4, 6, 5), (5, 9, 11, 10)])
        self.same(list(windows_of(site=SITE, name='clean', upto=12)), [(0, 6, 6, 6), (6, 12, 12, 12), (12, 18, 18, 18)])
        self.same(list(windows_of(SITE, 'oil', 0)), [(0, 4, 6, 5)])

    def test_the_end(self):
        self.same(list(windows_of(MOVES, 'check', 50)), [(0, None, None, None)])
        self.same(list(windows_of(one(('hours', 5), uses=((6, 0),)), 'task', 50)), [(0, 0, 0, 0)])
        stops = ((1, 0),) * 5 + ((9, 0),)
        # From day 5 on one day's use passes the limit: the due day is the base.
        self.same(list(windows_of(one(('hours', 3), uses=stops), 'task', 50)), [(0, 3, 3, 3), (3, 5, 5, 5), (5, 5, 5, 5)])

    def test_as_defined(self):
        for site in SITES[:60]:
            for task in site[2]:
                for upto in (0, 4, 20):
                    want, base = [], 0
                    while True:
                        early, due, late = days.early_due_late(site, task, base)
                        want.append((base, early, late, due))
                        if due is None or due <= base or due > upto:
                            break
                        base = due
                    self.same(list(windows_of(site, task[0], upto)), want)

    def test_one_by_one(self):
        rows = windows_of(SITE, 'oil', GREAT)
        self.same(next(rows), (0, 4, 6, 5))
        self.same(list(islice(rows, 2)), [(5, 9, 11, 10), (10, 14, 16, 15)])
        rows.close()

    def test_left_early_and_gone_through_twice_at_once(self):
        one_way, other = windows_of(SITE, 'oil', 20), windows_of(SITE, 'oil', 20)
        for row in one_way:
            self.same(next(other), row)
            if row[0] == 10:
                break
        self.same(list(one_way), list(other))
        pairs = [(row[0], other[0]) for row in windows_of(SITE, 'oil', 5) for other in windows_of(SITE, 'oil', 5)]
        self.same(pairs, [(0, 0), (0, 5), (5, 0), (5, 5)])

    def test_errors_when_the_first_one_is_asked_for(self):
        rows = windows_of(SITE, 'nobody', -1)
        self.raises(NotUsable, {'word': 'name', 'at': -1}, next, rows)
        rows = windows_of(SITE, 'oil', True)
        self.raises(NotUsable, {'word': 'upto', 'at': -1}, next, rows)


class TestConsequences(Case):
    def test_passing_days(self):
        for site, task, base in all_tasks():
            due, late = due_day(site, task[0], base), late_day(site, task[0], base)
            passing = passing_day(site, task[1], task[3], base)
            self.same(due, None if passing is None else passing - 1)
            passing = passing_day(site, task[1], widened(task[3], task[4]), base)
            self.same(late, None if passing is None else passing - 1)

    def test_their_order(self):
        for site, task, base in all_tasks():
            early, due, late = three(site, task[0], base)
            self.assertTrue(all(day is None or day >= base for day in (early, due, late)))
            if late is not None:
                self.assertTrue(due is not None and due <= late and early is not None and early <= late)

    def test_without_slack(self):
        for site, task, base in all_tasks():
            bare = site[:2] + ((task[:4] + ((0, 0, 0),),),)
            self.same(due_day(bare, task[0], base), late_day(bare, task[0], base))

    def test_a_later_base(self):
        for site in SITES:
            for task in site[2]:
                told = [three(site, task[0], base) for base in range(25)]
                for before, behind in zip(told, told[1:]):
                    self.assertTrue(all(no_less(behind[k], before[k]) for k in range(3)), (site, task))

    def test_a_greater_slack(self):
        for site, task, base in all_tasks():
            for k in range(3):
                slack = task[4][:k] + (task[4][k] + 2,) + task[4][k + 1:]
                wider = site[:2] + ((task[:4] + (slack,),),)
                self.assertTrue(no_less(late_day(wider, task[0], base), late_day(site, task[0], base)))

    def test_more_use(self):
        random = Random(9)
        for site in SITES:
            more = tuple(
                (name, tuple((hours + random.choice((0, 0, 1, 2)), cycles + random.choice((0, 0, 1))) for hours, cycles in uses))
                for name, uses in site[0]
            )
            for task, base in product(site[2], BASES):
                before, behind = three(site, task[0], base), three((more,) + site[1:], task[0], base)
                self.assertTrue(all(no_less(before[k], behind[k]) for k in range(3)), (site, more, task))


class TestWrong(Case):
    def wrong(self, word, call, *args):
        self.raises(NotUsable, {'word': word, 'at': -1}, call, *args)

    def test_name(self):
        for call in (due_day, late_day, early_day, window_of, lambda *args: list(windows_of(*args))):
            for odd in NO_NAME:
                self.wrong('name', call, SITE, odd, 0)
                self.wrong('name', call, SITE, odd, -1)
                self.wrong('name', call, EMPTY, odd, None)

    def test_base(self):
        for call in (due_day, late_day, early_day, window_of):
            for odd in NO_DAY:
                self.wrong('base', call, SITE, 'oil', odd)
                self.wrong('base', call, SITE, 'clean', odd)

    def test_upto(self):
        for odd in NO_DAY:
            for name in ('oil', 'clean'):
                self.wrong('upto', lambda upto: list(windows_of(SITE, name, upto)), odd)


class TestExamples(Case):
    def test_days_and_windows(self):
        self.examples("""
    >>> from whichfirst.duedays import due_day, early_day, late_day, window_of, windows_of
    >>> [early_day(SITE, 'oil', 0), due_day(SITE, 'oil', 0), late_day(SITE, 'oil', 0), due_day(SITE, 'clean', 6)]
    [4, 5, 6, 12]
    >>> [window_of(SITE, 'oil', 5), window_of(SITE, 'clean', 5), list(windows_of(SITE, 'oil', 9))]
    [(9, 11), None, [(0, 4, 6, 5), (5, 9, 11, 10)]]
        """)

    def test_what_the_document_says_of_its_site(self):
        # From base 0 the oil is due on day 5, with 40 hours; its window consists of the days 4, 5 and 6. Behind it
        # the base is 5: the next window is from 9 to 11.
        self.same((due_day(SITE, 'oil', 0), window_of(SITE, 'oil', 0), window_of(SITE, 'oil', 5)), (5, (4, 6), (9, 11)))
