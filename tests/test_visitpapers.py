"""Visit papers (visit_paper of [37]; (W2) and (W7) of [9])."""

import brute
import days
import faults
import great
from helpers import NO_NUMBER, Case
from sites import EMPTY, MOVES, SITE, one
from whichfirst.errors import NeverKept, NotUsable
from whichfirst.planning import fewest_visits
from whichfirst.visitchecker import lets_visits
from whichfirst.visitpapers import visit_paper

HARD = ((('mill', ((2, 0), (20, 0))),), (('saw', ((0, 'mill'),)),), (('edge', 'saw', 'kept', ('hours', 9), (0, 0, 0)),))
SITES = [SITE, MOVES, HARD] + days.small_sites(100, 38)


class TestPapers(Case):
    def test_ordinary(self):
        paper = visit_paper(SITE, 20)
        self.same((paper[0], tuple(day for day, _ in paper[1]), len(paper)), ('visits', (6, 11, 16), 2))
        self.same(visit_paper(upto=6, site=SITE), ('visits', ()))
        self.same(visit_paper(HARD, 5), ('missed', ((1, 'edge'),), 'edge'))
        self.same(visit_paper(HARD, 1), ('visits', ()))

    def test_without_rows(self):
        for site, upto in ((EMPTY, 0), (EMPTY, 10 ** 59), (SITE, 0), (SITE[:2] + ((),), 60), (MOVES[:2] + (MOVES[2][:1],), 10 ** 59)):
            self.same(visit_paper(site, upto), ('visits', ()))

    def test_missed_at_once(self):
        for way in ('fresh', 'kept'):
            site = one(('hours', 5), way=way, uses=((6, 0),))
            self.same([visit_paper(site, upto) for upto in (0, 1)], [('visits', ()), ('missed', ((0, 'task'),), 'task')])

    def test_they_are_accepted_and_as_stated(self):
        missed = 0
        for site in SITES:
            for upto in (0, 1, 5, 12, 26):
                paper = visit_paper(site, upto)
                self.same(faults.visits_fault(site, upto, paper), None)
                try:
                    visits = fewest_visits(site, upto)
                except NeverKept:
                    missed += 1
                    self.same((paper[0], lets_visits(site, upto, paper)), ('missed', None))
                    continue
                self.same((paper[0], lets_visits(site, upto, paper)), ('visits', len(visits)))
                self.same(tuple(day for day, _ in paper[1]), visits)
        self.assertGreater(missed, 60)

    def test_they_are_true(self):
        for site in SITES[:60]:
            for upto in (4, 13):
                self.same(lets_visits(site, upto, visit_paper(site, upto)), brute.fewest(site, upto))

    def test_of_great_sites(self):
        for site in great.great_sites(20, 13):
            for upto in (60, 100):
                paper = visit_paper(site, upto)
                self.same(lets_visits(site, upto, paper), len(paper[1]) if paper[0] == 'visits' else None)


class TestWrong(Case):
    def test_upto(self):
        for odd in NO_NUMBER:
            for site in (SITE, HARD, EMPTY):
                self.raises(NotUsable, {'word': 'upto', 'at': -1}, visit_paper, site, odd)
