"""The least cost of free visits ([42]; the consequences [44]; (W3) of [9]; NeverKept as in [34])."""

from itertools import product
from random import Random

import days
import freely
from helpers import NO_NUMBER, Case
from sites import CLEAN, EMPTY, MOVES, OIL, SITE, one
from test_freeing import NO_PRICES
from whichfirst.errors import NeverKept, NotUsable
from whichfirst.freecosts import best_free, early_saves, least_cost
from whichfirst.freeing import cost_of, lets_free
from whichfirst.goingby import bases_after
from whichfirst.planning import fewest_visits, how_few

TWO = SITE[:2] + ((('belt', 'saw', 'kept', ('days', 12), (0, 0, 0)), ('grease', 'pump', 'kept', ('days', 10), (0, 0, 0))),)
HARD = ((('mill', ((2, 0), (20, 0))),), (('saw', ((0, 'mill'),)),), (('edge', 'saw', 'kept', ('hours', 9), (0, 0, 0)),))
SITES = [SITE, TWO, HARD] + days.small_sites(90, 42)


def some_prices(site, random):
    return random.choice((
        (1, (0,) * len(site[2])), (random.randint(0, 9), tuple(random.randint(0, 4) for _ in site[2])),
        (0, tuple(random.randint(0, 2) for _ in site[2])),
    ))


def never_by(site, upto):
    """The fields of NeverKept as the fewest visits tell it; None if some visits keep the site."""
    try:
        fewest_visits(site, upto)
    except NeverKept as error:
        return vars(error)
    return None


class TestOrdinary(Case):
    def test_costs(self):
        self.same(least_cost(TWO, 20, (5, (3, 2))), 10)
        self.same(least_cost(prices=(1, (0, 0)), upto=24, site=TWO), 2)
        self.same([least_cost(SITE, upto, (1, (0, 0))) for upto in (0, 6, 7, 20)], [0, 0, 1, 3])
        self.same([least_cost(SITE, 9, (7, works)) for works in ((0, 0), (1, 0), (0, 1), (2, 3))], [7, 8, 8, 12])

    def test_visits(self):
        self.same(best_free(TWO, 20, (5, (3, 2))), ((10, ('belt', 'grease')),))
        for upto in (0, 6):
            self.same(best_free(site=SITE, upto=upto, prices=(5, (3, 2))), ())

    def test_saved(self):
        self.same([early_saves(TWO, upto) for upto in (0, 10, 12, 13, 20, 21, 24)], [0, 0, 0, 1, 1, 1, 1])
        self.same(early_saves(upto=20, site=SITE), 0)

    def test_prices_of_0(self):
        for site in SITES[:40]:
            if never_by(site, 9) is None:
                free = best_free(site, 9, (0, (0,) * len(site[2])))
                self.same(least_cost(site, 9, (0, (0,) * len(site[2]))), 0)
                lets_free(site, 9, free)

    def test_up_to_0_and_without_tasks(self):
        for site in SITES:
            prices = (3, (1,) * len(site[2]))
            self.same((least_cost(site, 0, prices), best_free(site, 0, prices), early_saves(site, 0)), (0, (), 0))
        for site, upto in product((EMPTY, SITE[:2] + ((),)), (0, 27, 10 ** 59)):
            self.same((least_cost(site, upto, (3, ())), best_free(site, upto, (3, ())), early_saves(site, upto)), (0, (), 0))

    def test_without_a_late_day(self):
        site = MOVES[:2] + (MOVES[2][:1],)
        self.same((least_cost(site, 10 ** 59, (3, (2,))), best_free(site, 27, (3, (2,)))), (0, ()))

    def test_great_prices(self):
        great = 10 ** 59
        self.same(least_cost(TWO, 20, (great, (great, great))), 3 * great)


class TestExact(Case):
    """(W3), compared with all choices on all days."""

    def test_the_least_over_all_free_visits(self):
        random = Random(42)
        never = 0
        for site in SITES:
            for upto in (3, 7, 10):
                prices = some_prices(site, random)
                want = freely.least(site, upto, prices)
                if want is None:
                    never += 1
                    for call in (least_cost, best_free):
                        self.raises(NeverKept, never_by(site, upto), call, site, upto, prices)
                    self.raises(NeverKept, never_by(site, upto), early_saves, site, upto)
                    continue
                free = best_free(site, upto, prices)
                self.same(least_cost(site, upto, prices), want)
                self.assertIsNotNone(freely.behind(site, upto, free))
                self.same(freely.behind(site, upto, free), lets_free(site, upto, free))
                self.same(cost_of(site, upto, free, prices), want)
        self.assertTrue(20 < never < 150)

    def test_later_days(self):
        saved = 0
        for site in SITES[:60]:
            for upto in (14, 19):
                if never_by(site, upto) is None:
                    prices = (1, (0,) * len(site[2]))
                    least = freely.least(site, upto, prices)
                    self.same(least_cost(site, upto, prices), least)
                    self.same(early_saves(site, upto), how_few(site, upto) - least)
                    saved += early_saves(site, upto) > 0
        self.assertGreater(saved, 3)

    def test_never_more_than_the_fewest_visits(self):
        for site in SITES:
            for upto in (9, 27):
                if never_by(site, upto) is None:
                    self.assertTrue(0 <= early_saves(site, upto) <= how_few(site, upto))
                    self.assertTrue(least_cost(site, upto, (1, (0,) * len(site[2]))) <= how_few(site, upto))


class TestConsequences(Case):
    def test_with_a_greater_day_and_greater_prices(self):
        random = Random(44)
        for site in SITES[:60]:
            prices = some_prices(site, random)
            more = (prices[0] + random.randint(0, 2), tuple(price + random.randint(0, 2) for price in prices[1]))
            before = 0
            for upto in range(0, 16, 3):
                if never_by(site, upto) is None:
                    paid = least_cost(site, upto, prices)
                    self.assertTrue(before <= paid <= least_cost(site, upto, more))
                    before = paid

    def test_prices_some_times_as_great(self):
        random = Random(45)
        for site in SITES[:60]:
            if never_by(site, 12) is None:
                cost, works = some_prices(site, random)
                for times in (0, 2, 7):
                    great = (cost * times, tuple(price * times for price in works))
                    self.same(least_cost(site, 12, great), least_cost(site, 12, (cost, works)) * times)

    def test_an_elder_base_can_be_better(self):
        site = one(('days', 10), (0, 0, 3))
        self.same(lets_free(site, 13, ((7, ('task',)),)), (10,))
        self.same(bases_after(site, (0,), (7,)), (10,))
        self.same([dict(freely.able(site, (1,), day)) for day in (7,)], [{'task': ('anew', 7)}])
        self.same(lets_free(site, 13, ((1, ('task',)), (7, ('task',)))), (7,))

    def test_what_no_visits_keep_no_free_ones_do(self):
        """And the other way round: what is missed is missed by itself, whatever else is done."""
        for site in SITES:
            for upto in (5, 12):
                self.same(freely.least(site, upto, (1, (0,) * len(site[2]))) is None, never_by(site, upto) is not None)


class TestNever(Case):
    def never(self, site, upto, task, day):
        prices = (1, (0,) * len(site[2]))
        for call in (least_cost, best_free):
            self.raises(NeverKept, {'task': task, 'day': day}, call, site, upto, prices)
        self.raises(NeverKept, {'task': task, 'day': day}, early_saves, site, upto)

    def test_as_told_by_the_fewest_visits(self):
        self.never(HARD, 2, 'edge', 1)
        self.never(HARD, 5, 'edge', 1)
        self.same((least_cost(HARD, 1, (1, (0,))), best_free(HARD, 1, (1, (0,))), early_saves(HARD, 1)), (0, (), 0))
        for way in ('fresh', 'kept'):
            self.never(one(('hours', 5), way=way, uses=((6, 0),)), 1, 'task', 0)
        self.never(HARD[:2] + ((('brush', 'saw', 'fresh', ('days', 1), (0, 0, 0)),) + HARD[2],), 20, 'edge', 1)


class TestWrong(Case):
    def test_upto_first(self):
        for odd in NO_NUMBER:
            for site in (SITE, EMPTY, HARD):
                self.raises(NotUsable, {'word': 'upto', 'at': -1}, early_saves, site, odd)
                for prices in ((5, (3, 2)), None, (5, ())):
                    self.raises(NotUsable, {'word': 'upto', 'at': -1}, least_cost, site, odd, prices)
                    self.raises(NotUsable, {'word': 'upto', 'at': -1}, best_free, site, odd, prices)

    def test_prices_ahead_of_never(self):
        both = SITE[:2] + ((CLEAN, OIL[:3] + (('hours', 5), (0, 0, 0))),)
        self.assertIsNotNone(never_by(both, 9))
        for odd in NO_PRICES:
            for site in (SITE, both):
                self.raises(NotUsable, {'word': 'prices', 'at': -1}, least_cost, site, 9, odd)
                self.raises(NotUsable, {'word': 'prices', 'at': -1}, best_free, site, 9, odd)
        for odd in ((5, (3, 2)), (5, (1,)), None, (5,), ()):
            self.raises(NotUsable, {'word': 'prices', 'at': -1}, least_cost, EMPTY, 0, odd)
            self.raises(NotUsable, {'word': 'prices', 'at': -1}, best_free, EMPTY, 0, odd)


class TestExamples(Case):
    def test_costs(self):
        self.examples("""
    >>> TWO = SITE[:2] + ((('belt', 'saw', 'kept', ('days', 12), (0, 0, 0)), ('grease', 'pump', 'kept', ('days', 10), (0, 0, 0))),)
    >>> from whichfirst.freecosts import best_free, early_saves, least_cost
    >>> [least_cost(TWO, 20, (5, (3, 2))), best_free(TWO, 20, (5, (3, 2)))]
    [10, ((10, ('belt', 'grease')),)]
        """)
