"""Great sites ([10]): exchanges ([58] to [60]), the fewest visits, free visits, sure visits, and their papers."""

from random import Random

import brute
import freely
import great
from helpers import Case
from runs import in_run
from test_exchanges import exchanges_of, plain_exchanged, plain_late
from whichfirst.apartchecker import lets_apart
from whichfirst.apartness import apart_windows
from whichfirst.errors import NeverKept
from whichfirst.exchanges import all_exchanges, best_exchange, first_late
from whichfirst.freecosts import best_free, early_saves, least_cost
from whichfirst.freeing import cost_of, lets_free
from whichfirst.goingby import are_kept
from whichfirst.planning import fewest_visits, how_few
from whichfirst.surechecker import lets_sure
from whichfirst.surepapers import sure_paper

SITES = great.great_sites(10, 10)
FREE = great.great_sites(10, 11, tasks=3, most=27, use=8)


def fewest(site, upto):
    try:
        return fewest_visits(site, upto)
    except NeverKept:
        return None


class TestExchanges(Case):
    def test_plain_look(self):
        moved = 0
        for k, site in enumerate(SITES):
            with great.counted_far():
                bases, day = (0, 3, 20, 33), (0, 7, 31, 60)[k % 4]
                rows = [(pair, plain_late(plain_exchanged(site, pair, day), bases)) for pair in exchanges_of(site)]
            self.same(first_late(site, bases), rows[0][1])
            self.same(list(all_exchanges(site, bases, day)), rows)
            best = max([late for _, late in rows], key=lambda late: (late is None, late or 0))
            self.same(best_exchange(site, bases, day), (best, tuple(pair for pair, late in rows if late == best)))
            self.assertTrue(best is None or best >= rows[0][1])
            moved += len({late for _, late in rows}) > 1
        self.assertGreater(moved, 2)


class TestVisits(Case):
    def test_the_fewest(self):
        kept = 0
        for site in SITES:
            for upto in (30, 60):
                visits = fewest(site, upto)
                with great.counted_far():
                    self.same(brute.fewest(site, upto), None if visits is None else len(visits))
                kept += visits is not None and len(visits) > 2
        self.assertGreater(kept, 4)

    def test_windows_apart(self):
        seen = 0
        for site in SITES:
            site = site[:2] + (tuple(task[:2] + ('kept',) + task[3:] for task in site[2]),)
            if fewest(site, 60) is not None:
                pairs = apart_windows(site, 60)
                self.same((lets_apart(site, 60, pairs), len(pairs)), (how_few(site, 60),) * 2)
                seen += len(pairs) > 2
        self.assertGreater(seen, 2)


class TestFree(Case):
    def test_costs(self):
        kept = 0
        for site in FREE:
            if fewest(site, 27) is None:
                self.assertRaises(NeverKept, least_cost, site, 27, (1, (0, 0, 0)))
                continue
            for prices in ((1, (0, 0, 0)), (4, (3, 2, 1)), (0, (1, 1, 1))):
                free = best_free(site, 27, prices)
                lets_free(site, 27, free)
                self.same(least_cost(site, 27, prices), cost_of(site, 27, free, prices))
                kept += len(free) > 1
            self.assertTrue(0 <= early_saves(site, 27) <= how_few(site, 27))
        self.assertGreater(kept, 6)

    def test_the_least_cost(self):
        seen = 0
        for site in FREE:
            with great.counted_far():
                want = freely.least(site, 12, (4, (3, 2, 1)))
            if want is not None:
                self.same(least_cost(site, 12, (4, (3, 2, 1))), want)
                seen += want > 0
        self.assertGreater(seen, 2)


class TestSure(Case):
    def test_papers(self):
        random = Random(12)
        words = {}
        for site in SITES:
            bounds = great.great_bounds(site, random)
            for upto in (12, 25, 60):
                paper = sure_paper(site, bounds, upto)
                words[paper[0]] = words.get(paper[0], 0) + 1
                self.same(lets_sure(site, bounds, upto, paper), len(paper[1]) if paper[0] == 'visits' else None)
                if paper[0] == 'visits':
                    for run in bounds + tuple(great.some_run(bounds, random) for _ in range(10)):
                        self.assertTrue(are_kept(in_run(site, run), paper[1], upto))
        self.assertTrue(len(words) == 2 and min(words.values()) > 3)
