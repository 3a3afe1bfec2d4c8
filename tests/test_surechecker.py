"""Sure papers and their checker ([57], by [55]; (W5) and (W7) of [9]; the words on errors of [47])."""

from itertools import product
from random import Random

import faults
from helpers import NO_NUMBER, ODD, Case
from runs import all_runs, in_run, some_bounds
from sites import EMPTY, SITE, one
from spoil import spoilt
from test_surewindows import NO_BOUNDS
from whichfirst.errors import InvalidPaper, NotUsable
from whichfirst.goingby import are_kept
from whichfirst.surechecker import lets_sure
from whichfirst.surepapers import sure_paper
from whichfirst.surevisits import sure_visits

LOW, HIGH = (('lift', ((7, 0),)), ('mill', ((0, 0),))), (('lift', ((8, 2),)), ('mill', ((9, 9),)))
SLOW = (('lift', ((6, 0),)), ('mill', ((0, 0),)))
BOUNDS = (LOW, HIGH)
VISITS, REASONS = (6, 11, 16), (('oil', 0), ('oil', 1), ('oil', 2))
GOOD = ('visits', VISITS, REASONS)
CASES = [(SITE, BOUNDS), (SITE, (SLOW, HIGH)), (SITE, (SITE[0], SITE[0])), (EMPTY, ((), ()))] + some_bounds(70, 57)

# The use of a day passes the limit: a fresh task, and a kept one whose base is its due day then.
JUMPS = one(('hours', 2), (1, 0, 0))
JUMP_BOUNDS = ((('one', ((2, 0),)),), (('one', ((3, 0),)),))
FRESH = one(('hours', 5), way='fresh')
FRESH_BOUNDS = ((('one', ((1, 0),)),), (('one', ((6, 0),)),))


class TestPapers(Case):
    def test_ordinary(self):
        self.same(sure_paper(SITE, BOUNDS, 20)[:2], ('visits', VISITS))
        self.same(sure_paper(upto=6, bounds=BOUNDS, site=SITE), ('visits', (), ()))
        self.same(sure_paper(SITE, (SLOW, HIGH), 12), ('never', 'oil', 1))
        self.same(sure_paper(EMPTY, ((), ()), 10 ** 59), ('visits', (), ()))
        self.same(sure_paper(FRESH, FRESH_BOUNDS, 1), ('never', 'task', 0))
        self.same(sure_paper(JUMPS, JUMP_BOUNDS, 2), ('never', 'task', 0))

    def test_they_are_accepted(self):
        never = 0
        for site, bounds in CASES:
            for upto in (0, 1, 5, 9, 20):
                paper = sure_paper(site, bounds, upto)
                visits = sure_visits(site, bounds, upto)
                if visits is None:
                    never += 1
                    self.same((paper[0], type(paper), len(paper)), ('never', tuple, 3))
                    self.same(lets_sure(site, bounds, upto, paper), None)
                else:
                    self.same((paper[0], len(paper[1]), len(paper[2])), ('visits', len(visits), len(visits)))
                    self.same(lets_sure(site, bounds, upto, paper), len(visits))
        self.assertTrue(40 < never < 200)

    def test_they_are_as_stated(self):
        for site, bounds in CASES:
            for upto in (5, 12):
                self.same(faults.sure_fault(site, bounds, upto, sure_paper(site, bounds, upto)), None)

    def test_a_fresh_task_behind_some_visits(self):
        # On day 4 the use passes the limit, and no visit but the one on this day is late enough.
        site = one(('hours', 5), way='fresh', uses=((1, 0), (1, 0), (1, 0), (1, 0), (6, 0)))
        paper = sure_paper(site, (site[0], site[0]), 9)
        self.same(paper, ('never', 'task', 4))
        self.same(lets_sure(site, (site[0], site[0]), 9, paper), None)


class TestAccepted(Case):
    def test_ordinary(self):
        self.same(lets_sure(SITE, BOUNDS, 20, GOOD), 3)
        self.same(lets_sure(thing=('visits', VISITS, (('clean', 0),) + REASONS[1:]), upto=20, bounds=BOUNDS, site=SITE), 3)
        self.same(lets_sure(SITE, (SLOW, HIGH), 12, ('never', 'oil', 1)), None)
        self.same(lets_sure(SITE, BOUNDS, 6, ('visits', (), ())), 0)
        self.same(lets_sure(EMPTY, ((), ()), 0, ('visits', (), ())), 0)

    def test_never_of_a_fresh_task(self):
        for k, upto in product((0, 3, 10 ** 58), (4, 10 ** 59)):
            if k < upto:
                self.same(lets_sure(FRESH, FRESH_BOUNDS, upto, ('never', 'task', k)), None)
            else:
                self.never(FRESH, FRESH_BOUNDS, upto, 'task', k)
        # With low it could be done.
        low = FRESH_BOUNDS[0]
        self.never(FRESH, (low, low), 9, 'task', 0)
        for k in (4, 5, -1):
            self.never(FRESH, FRESH_BOUNDS, 4, 'task', k)

    def never(self, site, bounds, upto, name, k):
        self.raises(InvalidPaper, {'word': 'never', 'at': -1}, lets_sure, site, bounds, upto, ('never', name, k))

    def test_never_of_an_empty_sure_window(self):
        self.same(lets_sure(SITE, (SLOW, HIGH), 17, ('never', 'oil', 1)), None)
        # Window 0 has a sure day; window 1 does not count; there is no window 9 ahead of that day.
        self.never(SITE, (SLOW, HIGH), 12, 'oil', 0)
        self.never(SITE, (SLOW, HIGH), 11, 'oil', 1)
        self.never(SITE, (SLOW, HIGH), 12, 'oil', 9)
        self.never(SITE, (SLOW, HIGH), 12, 'oil', 10 ** 59)
        # All that count behind an empty one are asked for themselves.
        self.same(lets_sure(SITE, (SLOW, HIGH), 17, ('never', 'oil', 2)), None)

    def test_never_of_a_window_that_low_has_not(self):
        site = one(('hours', 2), (1, 0, 0))
        bounds = ((('one', ((0, 0),)),), (('one', ((1, 0),)),))
        for k in (0, 1, 2):
            self.same(lets_sure(site, bounds, 20, ('never', 'task', k)), None)
        # With high windows 0 and 1 end on days 3 and 5.
        self.same(lets_sure(site, bounds, 6, ('never', 'task', 1)), None)
        self.never(site, bounds, 6, 'task', 2)
        self.never(site, bounds, 3, 'task', 0)

    def test_never_of_a_base_that_is_its_due_day(self):
        for k in (0, 1, 60, 10 ** 59):
            self.same(lets_sure(JUMPS, JUMP_BOUNDS, 2, ('never', 'task', k)), None)
            self.never(JUMPS, JUMP_BOUNDS, 1, 'task', k)
        # Base 0 has due day 2, this one day 3, and day 3 itself.
        later = ((('one', ((1, 0), (1, 0), (1, 0), (3, 0))),),) * 2
        self.same([days_told(later, k, 9) for k in (0, 1, 2, 3, 10 ** 59)], ['never', 'never', None, None, None])


def days_told(bounds, k, upto):
    """What lets_sure says of a paper that window k of JUMPS has no sure visit."""
    try:
        return lets_sure(JUMPS, bounds, upto, ('never', 'task', k))
    except InvalidPaper as error:
        return error.word


class TestErrors(Case):
    def wrong(self, word, at, thing, upto=20, site=SITE, bounds=BOUNDS):
        self.raises(InvalidPaper, {'word': word, 'at': at}, lets_sure, site, bounds, upto, thing)

    def test_shape(self):
        for odd in ODD + (
            'visits', ('visits',), ('visits', VISITS), GOOD + (0,), list(GOOD), ('visits', list(VISITS), REASONS), ('visits', VISITS, list(REASONS)),
            ('visits', (6, 11, True), REASONS), ('visits', (6, None), REASONS), ('visits', VISITS, REASONS[:2] + (['oil', 2],)),
            ('visits', VISITS, REASONS[:2] + (('oil', True),)), ('visits', VISITS, REASONS[:2] + (('oil',),)),
            ('visits', VISITS, REASONS[:2] + ((2, 'oil'),)), ('visits', VISITS, REASONS[:2] + ((None, 2),)), ('visits', 'ab', ()), ('visits', (), 'ab'),
            ('visits', VISITS, REASONS[:2] + ('ab',)), ('never', 'oil'), ('never', 'oil', 1, 2), ('never', None, 1), ('never', 'oil', True),
            ('never', 'oil', None), ('never', ('oil',), 1), ['never', 'oil', 1], ('Never', 'oil', 1), (('never',), 'oil', 1), (True, 'oil', 1),
            ('never', VISITS, REASONS), ('visits', 'oil', 1), ('missed', VISITS, REASONS),
        ):
            self.wrong('shape', -1, odd)
            self.wrong('shape', -1, odd, 0, EMPTY, ((), ()))
        self.wrong('shape', -1, ('visits', (-1, 11, '16'), REASONS))

    def test_visits(self):
        for visits in ((-1, 6, 11), (6, 6, 11), (6, 11, 6), (11, 6), (6, 11, 21), (10 ** 59,), (-10 ** 59,)):
            for reasons in (REASONS, (), REASONS[:1]):
                self.wrong('visits', -1, ('visits', visits, reasons))
        self.wrong('visits', -1, ('visits', (1,), ()), 0, EMPTY, ((), ()))

    def test_many(self):
        for reasons in ((), REASONS[:2], REASONS + (('oil', 3),)):
            self.wrong('many', -1, ('visits', VISITS, reasons))
        # Too few and too many come ahead of tasks that are missed and reasons that are none.
        self.wrong('many', -1, ('visits', (), REASONS))
        self.wrong('many', -1, ('visits', (3,), (('nobody', -1), ('nobody', 0))))

    def test_task(self):
        # The fresh task of index 0 is missed, also if the other one is.
        for visits in ((7, 11, 16), (5, 12, 16), (6, 11), (6,)):
            self.wrong('task', 0, ('visits', visits, (('nobody', 0),) * len(visits)))
        self.wrong('task', 0, ('visits', (), ()))
        # In sure window 1, from 10 to 11, and in sure window 2 lies no visit.
        self.wrong('task', 1, ('visits', (6, 12, 16), REASONS))
        self.wrong('task', 1, ('visits', (6, 9, 12, 16), (('nobody', 0),) * 4))
        self.wrong('task', 1, ('visits', (6, 11, 17), REASONS))
        self.wrong('task', 1, ('visits', (4, 10), (('nobody', 0),) * 2), 16)
        # No visits are sure in an empty sure window.
        self.wrong('task', 1, ('visits', tuple(range(13)), (('nobody', 0),) * 13), 12, SITE, (SLOW, HIGH))

    def test_task_by_its_due_day(self):
        every = ('visits', tuple(range(6)), (('task', 0),) * 6)
        self.wrong('task', 0, every, 6, JUMPS, JUMP_BOUNDS)
        self.same(lets_sure(JUMPS, JUMP_BOUNDS, 1, ('visits', (), ())), 0)
        self.wrong('reason', 0, ('visits', (0,), (('task', 0),)), 1, JUMPS, JUMP_BOUNDS)

    def test_reason(self):
        for odd in (('nobody', 0), ('', 0), ('pump', 0), ('oil', 1), ('oil', -1), ('oil', 10 ** 59), ('clean', 1), ('clean', -1), ('clean', 6)):
            self.wrong('reason', 0, ('visits', VISITS, (odd, ('nobody', 0), ('nobody', 0))))
        for odd in (('oil', 0), ('oil', 2), ('clean', 0), ('clean', 6), ('oil', 3)):
            self.wrong('reason', 1, ('visits', VISITS, REASONS[:1] + (odd,) + REASONS[2:]))
            self.wrong('reason', 1, ('visits', VISITS, REASONS[:1] + (odd, ('nobody', 0))))
        # Sure window 2, from 15 to 16, does not count up to 16, and up to 17 does.
        self.same(lets_sure(SITE, BOUNDS, 17, GOOD), 3)
        self.wrong('reason', 2, GOOD, 16)

    def test_reason_of_a_window_that_begins_with_the_visit_before_or_ahead_of_it(self):
        def site(*rows):
            return one(('days', 1))[:2] + (tuple((name, 'one', 'kept', ('days', n), (0, 0, 2)) for name, n in rows),)
        # The windows of a are 2 to 6 and 6 to 10, that of b is 3 to 7.
        near = site(('a', 4), ('b', 5))
        bounds = (near[0], near[0])
        self.same(lets_sure(near, bounds, 7, ('visits', (6,), (('a', 0),))), 1)
        self.wrong('reason', 1, ('visits', (6, 7), (('a', 0), ('b', 0))), 8, near, bounds)
        self.wrong('reason', 0, ('visits', (6, 7), (('b', 0), ('b', 0))), 8, near, bounds)
        # Here that of b is 6 to 10, and here 7 to 11.
        far = site(('a', 4), ('b', 8))
        for reason in (('a', 1), ('b', 0)):
            self.wrong('reason', 1, ('visits', (6, 10), (('a', 0), reason)), 11, far, bounds)
        self.same(lets_sure(site(('a', 4), ('b', 9)), bounds, 12, ('visits', (6, 11), (('a', 0), ('b', 0)))), 2)

    def test_reason_on_upto(self):
        # The late day of the fresh task is upto itself.
        site = one(('days', 6), way='fresh')
        bounds = (site[0], site[0])
        self.wrong('reason', 0, ('visits', (6,), (('task', 0),)), 6, site, bounds)
        self.same(lets_sure(site, bounds, 7, ('visits', (6,), (('task', 0),))), 1)
        self.wrong('reason', 1, ('visits', (6, 12), (('task', 0),) * 2), 12, site, bounds)
        self.same(lets_sure(site, bounds, 13, ('visits', (6, 12), (('task', 0),) * 2)), 2)

    def test_never(self):
        for name, k in (('nobody', 0), ('', 0), ('pump', 1), ('oil', 0), ('oil', -1), ('clean', 0), ('clean', 6), ('clean', -1), ('oil', 10 ** 59)):
            self.wrong('never', -1, ('never', name, k))
            self.wrong('never', -1, ('never', name, k), 12, SITE, (SLOW, HIGH))
            self.wrong('never', -1, ('never', name, k), 12, EMPTY, ((), ()))

    def test_bounds_and_upto_first(self):
        for odd in NO_BOUNDS:
            for upto, thing in product((20, -1, None), (GOOD, None)):
                self.raises(NotUsable, {'word': 'bounds', 'at': -1}, lets_sure, SITE, odd, upto, thing)
                self.raises(NotUsable, {'word': 'bounds', 'at': -1}, sure_paper, SITE, odd, upto)
        for odd in NO_NUMBER:
            for thing in (GOOD, None, ('never', 'oil', -1)):
                self.raises(NotUsable, {'word': 'upto', 'at': -1}, lets_sure, SITE, BOUNDS, odd, thing)
            self.raises(NotUsable, {'word': 'upto', 'at': -1}, sure_paper, SITE, BOUNDS, odd)
            self.raises(NotUsable, {'word': 'upto', 'at': -1}, sure_paper, EMPTY, ((), ()), odd)


class TestSpoilt(Case):
    """Papers changed at one or two places, accepted just if they are as stated by a look at all runs."""

    def test_spoilt(self):
        random = Random(57)
        seen = {}
        for site, bounds in CASES:
            names = tuple(task[0] for task in site[2])
            others = names + ('visits', 'never', 0, 3) + tuple((name, 1) for name in names)
            for upto in (5, 9):
                for many in (1, 1, 1, 2, 2, 2):
                    self.one(site, bounds, upto, spoilt(random, sure_paper(site, bounds, upto), others, many), seen)
        self.same(set(seen) >= {'none', 'shape', 'visits', 'many', 'task', 'reason', 'never'}, True)

    def test_all_that_never_can_tell(self):
        seen = {}
        for site, bounds in CASES:
            for task, k, upto in product(site[2], (0, 1, 2, 5, 9), (3, 8)):
                self.one(site, bounds, upto, ('never', task[0], k), seen)
        self.assertTrue(seen['none'] > 60 and seen['never'] > 500)

    def test_other_reasons(self):
        seen = {}
        for site, bounds in CASES:
            for upto in (6, 10):
                paper = sure_paper(site, bounds, upto)
                if paper[0] == 'visits':
                    for i, (task, k) in product(range(len(paper[1])), product(site[2], range(3))):
                        reasons = paper[2][:i] + ((task[0], k),) + paper[2][i + 1:]
                        self.one(site, bounds, upto, paper[:2] + (reasons,), seen)
        self.assertTrue(seen['none'] > 50 and seen['reason'] > 100)

    def one(self, site, bounds, upto, thing, seen):
        fault = faults.sure_fault(site, bounds, upto, thing)
        word = 'none' if fault is None else fault[0]
        seen[word] = seen.get(word, 0) + 1
        if fault is None:
            self.same(lets_sure(site, bounds, upto, thing), len(thing[1]) if thing[0] == 'visits' else None)
        else:
            self.raises(InvalidPaper, {'word': fault[0], 'at': fault[1]}, lets_sure, site, bounds, upto, thing)


class TestTrue(Case):
    def test_accepted_visits_keep_the_site_in_all_runs(self):
        """(W5) and (W7)."""
        for site, bounds in CASES:
            paper = sure_paper(site, bounds, 14)
            if paper[0] == 'visits':
                self.same(lets_sure(site, bounds, 14, paper), len(paper[1]))
                for run in all_runs(bounds):
                    self.assertTrue(are_kept(in_run(site, run), paper[1], 14))


class TestExamples(Case):
    def test_sure(self):
        self.examples("""
    >>> LOW, HIGH = (('lift', ((7, 0),)), ('mill', ((0, 0),))), (('lift', ((8, 2),)), ('mill', ((9, 9),)))
    >>> SLOW = (('lift', ((6, 0),)), ('mill', ((0, 0),)))
    >>> from whichfirst.surechecker import lets_sure
    >>> lets_sure(SITE, (LOW, HIGH), 20, ('visits', (6, 11, 16), (('oil', 0), ('oil', 1), ('oil', 2))))
    3
    >>> lets_sure(SITE, (SLOW, HIGH), 12, ('never', 'oil', 1))
        """)
        self.same(lets_sure(SITE, (SLOW, HIGH), 12, ('never', 'oil', 1)), None)
