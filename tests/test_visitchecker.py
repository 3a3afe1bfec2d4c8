"""The checker of visit papers (lets_visits of [37], by [5], [6] and [34])."""

from random import Random

import brute
import days
import faults
from helpers import NO_NUMBER, ODD, Case
from sites import CLEAN, EMPTY, MOVES, OIL, SITE, one
from spoil import spoilt
from whichfirst.errors import InvalidPaper, NeverKept, NotUsable
from whichfirst.planners import Planner
from whichfirst.visitchecker import lets_visits

HARD = ((('mill', ((2, 0), (20, 0))),), (('saw', ((0, 'mill'),)),), (('edge', 'saw', 'kept', ('hours', 9), (0, 0, 0)),))
ROWS = ((6, 'clean'), (11, 'oil'), (16, 'oil'))
GOOD = ('visits', ROWS)
MISSED = ('missed', ((1, 'edge'),), 'edge')
SITES = [SITE, MOVES, HARD] + days.small_sites(60, 37)


def paper_of(site, upto):
    """A visit paper, made step by step, each time for the last task that has the least late day."""
    bases, rows = (0,) * len(site[2]), ()
    while True:
        below = brute.miss(site, bases, upto)
        if not below:
            return ('visits', rows)
        late, k = max(told for told in below if told[0] == min(below)[0])
        if rows and late <= rows[-1][0]:
            return ('missed', rows, site[2][k][0])
        rows += ((late, site[2][k][0]),)
        bases = brute.behind(site, bases, late)


class TestAccepted(Case):
    def test_ordinary(self):
        self.same(lets_visits(SITE, 20, GOOD), 3)
        self.same(lets_visits(thing=('visits', ((6, 'oil'), (11, 'oil'))), site=SITE, upto=16), 2)
        self.same(lets_visits(HARD, 5, MISSED), None)
        self.same(lets_visits(HARD, 2, MISSED), None)

    def test_without_rows(self):
        for site, upto in ((SITE, 0), (SITE, 6), (EMPTY, 0), (EMPTY, 10 ** 59), (HARD, 1), (SITE[:2] + ((),), 60)):
            self.same(lets_visits(site, upto, ('visits', ())), 0)

    def test_missed_at_once(self):
        for way in ('fresh', 'kept'):
            site = one(('hours', 5), way=way, uses=((6, 0),))
            self.same(lets_visits(site, 1, ('missed', ((0, 'task'),), 'task')), None)
            self.same(lets_visits(site, 10 ** 59, ('missed', ((0, 'task'),), 'task')), None)

    def test_the_last_task_that_is_missed_need_not_be_the_first_one(self):
        site = ((('one', ((1, 0), (9, 0))),), (('one', ((0, 'one'),)),), tuple(
            (name, 'one', 'kept', ('hours', hours), (0, 0, 0)) for name, hours in (('a', 1), ('b', 2), ('c', 8))
        ))
        for name in 'abc':
            self.same(lets_visits(site, 3, ('missed', ((1, 'a'),), name)), None)

    def test_papers_of_all_small_sites(self):
        missed = 0
        for site in SITES:
            for upto in (0, 4, 11, 23):
                paper = paper_of(site, upto)
                self.same(faults.visits_fault(site, upto, paper), None)
                self.same(lets_visits(site, upto, paper), len(paper[1]) if paper[0] == 'visits' else None)
                missed += paper[0] == 'missed'
        self.assertGreater(missed, 15)

    def test_what_is_accepted_is_true(self):
        """(W7): so many visits are the fewest; what is missed is so whatever is done, by a look at all sets of days."""
        for site in SITES[:40]:
            for upto in (3, 8):
                sets = brute.all_keeping(site, upto)
                paper = paper_of(site, upto)
                self.same(lets_visits(site, upto, paper), min(map(len, sets)) if sets else None)


class TestErrors(Case):
    def wrong(self, word, at, thing, site=SITE, upto=20):
        self.raises(InvalidPaper, {'word': word, 'at': at}, lets_visits, site, upto, thing)
        self.same(faults.visits_fault(site, upto, thing), (word, at))

    def test_shape(self):
        for odd in ODD + (
            'visits', ('visits',), ('missed', ROWS), ('visits', ROWS, 'oil'), ['visits', ROWS], ('visits', list(ROWS)),
            ('visits', ROWS[:1] + ([11, 'oil'],)), ('visits', ((6,),)), ('visits', ((6, 'clean', 0),)), ('visits', ('ab',)),
            ('Visits', ROWS), (('visits',), ROWS), ('missed', [], 'oil'), ('missed', ROWS, 'oil', 'oil'), (True, ROWS), (ROWS, 'visits'),
        ):
            self.wrong('shape', -1, odd)
            self.wrong('shape', -1, odd, EMPTY, 0)
        # An element that is no pair counts ahead of a first one that is wrong.
        self.wrong('shape', -1, ('visits', ((-1, None), (6,))))

    def test_day(self):
        for odd in NO_NUMBER + (20, 21, 10 ** 59):
            for behind in ('clean', 'nobody', None):
                self.wrong('day', 0, ('visits', ((odd, behind),) + ROWS))
                self.wrong('day', 1, ('visits', ROWS[:1] + ((odd, behind),) + ROWS[1:]))
                self.wrong('day', 2, ('missed', ROWS[:2] + ((odd, behind),), None))
        self.wrong('day', 1, ('visits', ((6, 'clean'), (6, 'oil'), (11, 'oil'))))
        self.wrong('day', 2, ('visits', ((6, 'clean'), (11, 'oil'), (6, 'oil'))))
        self.wrong('day', 2, GOOD, upto=16)
        self.wrong('day', 0, ('visits', ((0, 'oil'),)), EMPTY, 0)
        self.wrong('day', 0, ('missed', ((0, 'task'),), 'task'), one(('hours', 5), uses=((6, 0),)), 0)

    def test_task(self):
        for odd in (None, 'nobody', 'pump', 'lift', '', ('oil',), ['oil'], 0, True):
            for day in (6, 8):
                self.wrong('task', 0, ('visits', ((day, odd),) + ROWS[1:]))
            self.wrong('task', 1, ('missed', (ROWS[0], (12, odd)), 'nobody'))
            self.wrong('task', 0, ('visits', ((3, odd),)), EMPTY, 9)

    def test_missed(self):
        self.wrong('missed', 1, ('visits', ((6, 'oil'), (12, 'clean'))))
        self.wrong('missed', 0, ('visits', ((7, 'clean'),) + ROWS))
        self.wrong('missed', 2, ('visits', ROWS[:2] + ((17, 'clean'),)))
        self.wrong('missed', 1, ('missed', ((1, 'edge'), (2, 'edge')), 'edge'), HARD, 5)

    def test_late(self):
        self.wrong('late', 0, ('visits', ((5, 'oil'),) + ROWS))
        self.wrong('late', 1, ('visits', ((6, 'oil'), (11, 'clean'), (16, 'oil'))))
        # A task without a late day.
        never = SITE[:2] + ((CLEAN, ('never', 'pump', 'fresh', ('cycles', 200), (0, 0, 0))),)
        self.wrong('late', 0, ('visits', ((6, 'never'),)), with_shelf(never), 9)

    def test_behind_all(self):
        self.wrong('missed', -1, ('visits', ROWS[:2]))
        self.wrong('missed', -1, ('visits', ()))
        self.wrong('missed', -1, GOOD, upto=22)
        self.wrong('missed', -1, ('visits', MISSED[1]), HARD, 5)

    def test_the_task_that_is_missed(self):
        for odd in (None, 'nobody', 'saw', ('edge',), ['edge'], 0, MISSED):
            self.wrong('task', -1, ('missed', MISSED[1], odd), HARD, 5)
            self.wrong('task', -1, ('missed', (), odd), HARD, 5)
        self.wrong('late', -1, ('missed', (), 'edge'), HARD, 5)
        self.wrong('late', -1, ('missed', (), 'clean'))
        for name in ('clean', 'oil'):
            for many in (1, 2, 3):
                self.wrong('late', -1, ('missed', ROWS[:many], name))
        # Its late day is behind the last row, but not below the last day.
        self.wrong('late', -1, ('missed', ROWS[:1], 'oil'), upto=10)
        # It has none.
        shelf = with_shelf(SITE[:2] + ((OIL[:1] + ('saw',) + OIL[2:], ('pin', 'pump', 'fresh', ('hours', 1), (0, 0, 0))),))
        self.wrong('late', -1, ('missed', ((7, 'oil'),), 'pin'), shelf, 9)

    def test_upto_first(self):
        for odd in NO_NUMBER:
            for thing in (GOOD, None, ('visits', ((-1, 'oil'),))):
                self.raises(NotUsable, {'word': 'upto', 'at': -1}, lets_visits, SITE, odd, thing)
                self.raises(NotUsable, {'word': 'upto', 'at': -1}, lets_visits, EMPTY, odd, thing)


def with_shelf(site):
    """The site with its pump on the shelf."""
    return (site[0], (('pump', ((0, None),)),) + site[1][1:], site[2])


class TestSpoilt(Case):
    def test_one_and_two_places(self):
        random = Random(37)
        seen = {}
        for site in SITES:
            names = tuple(task[0] for task in site[2])
            for upto in (7, 15):
                for many in (1, 1, 1, 2, 2, 2):
                    thing = spoilt(random, paper_of(site, upto), names + ('visits', 'missed', (3, names[0])), many)
                    fault = faults.visits_fault(site, upto, thing)
                    seen[fault] = seen.get(fault, 0) + 1
                    if fault is None:
                        self.same(lets_visits(site, upto, thing), len(thing[1]) if thing[0] == 'visits' else None)
                    else:
                        self.raises(InvalidPaper, {'word': fault[0], 'at': fault[1]}, lets_visits, site, upto, thing)
        words = {fault and fault[0] for fault in seen}
        self.same(words >= {None, 'shape', 'day', 'task', 'missed', 'late'}, True)
        self.assertTrue(seen[None] > 20 and any(fault and fault[1] > 0 for fault in seen))


class TestConsequences(Case):
    def test_planners_and_papers(self):
        """The reasons of a Planner make a paper."""
        for site in SITES:
            for upto in (5, 17):
                try:
                    planner = Planner(site, upto)
                except NeverKept:
                    continue
                for k in (0, -1):
                    rows = tuple(zip(planner.visits, [names[k] for names in planner.reasons]))
                    self.same(lets_visits(site, upto, ('visits', rows)), len(planner))


class TestExamples(Case):
    def test_visits(self):
        self.examples("""
    >>> HARD = ((('mill', ((2, 0), (20, 0))),), (('saw', ((0, 'mill'),)),), (('edge', 'saw', 'kept', ('hours', 9), (0, 0, 0)),))
    >>> from whichfirst.visitchecker import lets_visits
    >>> [lets_visits(SITE, 20, ('visits', ((6, 'clean'), (11, 'oil'), (16, 'oil')))), lets_visits(HARD, 5, ('missed', ((1, 'edge'),), 'edge'))]
    [3, None]
    >>> lets_visits(SITE, 20, ('visits', ((6, 'oil'), (12, 'clean'))))
    raises InvalidPaper(word='missed', at=1)
        """)
