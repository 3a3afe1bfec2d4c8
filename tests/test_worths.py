"""Worth papers and their checker ([43], by [40] to [42]; (W3) and (W7) of [9])."""

from itertools import product
from random import Random

import days
import faults
import freely
import great
from helpers import NO_NUMBER, ODD, Case
from sites import EMPTY, SITE, one
from spoil import spoilt
from test_freeing import FREE, NO_PRICES
from whichfirst.errors import InvalidPaper, NeverKept, NotUsable
from whichfirst.freecosts import least_cost
from whichfirst.freeing import cost_of
from whichfirst.worthchecker import lets_worths
from whichfirst.worthpapers import worth_paper

TWO = SITE[:2] + ((('belt', 'saw', 'kept', ('days', 12), (0, 0, 0)), ('grease', 'pump', 'kept', ('days', 10), (0, 0, 0))),)
HARD = ((('mill', ((2, 0), (20, 0))),), (('saw', ((0, 'mill'),)),), (('edge', 'saw', 'kept', ('hours', 9), (0, 0, 0)),))
BOTH = (10, ('belt', 'grease'))
FIRST = (-1, (0, 0))
ONE, PRICES = (1, (0, 0)), (5, (3, 2))
SITES = [SITE, TWO, HARD] + days.small_sites(60, 43)
ZERO = (0, (0, 0))


def prices_of(site, random):
    return (random.randint(0, 4), tuple(random.randint(0, 3) for _ in site[2]))


class TestPapers(Case):
    def test_ordinary(self):
        free, worths = worth_paper(TWO, 20, PRICES)
        self.same((free, worths[0]), ((BOTH,), (FIRST, 10)))
        self.same(worth_paper(prices=ONE, upto=20, site=TWO)[1], ((FIRST, 1),))
        self.same(lets_worths(TWO, 20, PRICES, (free, worths)), 10)

    def test_nothing_to_pay(self):
        for site, upto, prices in ((SITE, 6, PRICES), (SITE, 0, PRICES), (EMPTY, 10 ** 59, (3, ())), (TWO, 20, ZERO), (SITE[:2] + ((),), 27, (3, ()))):
            paper = worth_paper(site, upto, prices)
            self.same(lets_worths(site, upto, prices, paper), 0)
            self.same(cost_of(site, upto, paper[0], prices), 0)

    def test_never_kept(self):
        self.same(worth_paper(HARD, 5, (1, (1,)))[0], None)
        self.same(lets_worths(HARD, 5, (1, (1,)), worth_paper(HARD, 5, (1, (1,)))), None)
        jumps = one(('hours', 5), uses=((6, 0),))
        self.same(worth_paper(jumps, 1, (7, (7,))), (None, ((-1, (0,)),)))

    def test_small_sites(self):
        """They are accepted, as stated by a plain look at all states, and tell the least cost."""
        random = Random(43)
        never = 0
        for site in SITES:
            for upto in (4, 8):
                prices = prices_of(site, random)
                paper = worth_paper(site, upto, prices)
                self.same(faults.worths_fault(site, upto, prices, paper), None)
                want = freely.least(site, upto, prices)
                self.same(lets_worths(site, upto, prices, paper), want)
                never += want is None
                if want is None:
                    self.same(paper[1], tuple(sorted(freely.all_states(site, upto))))
                else:
                    self.same(want, least_cost(site, upto, prices))
        self.assertTrue(15 < never < 80)

    def test_great_sites(self):
        """Three tasks and days to twenty-seven."""
        dear = 0
        for site in great.great_sites(12, 11, tasks=3, most=27, use=8):
            for prices in ((1, (0, 0, 0)), (4, (3, 2, 1)), (0, (2, 1, 1))):
                paper = worth_paper(site, 27, prices)
                told = lets_worths(site, 27, prices, paper)
                if paper[0] is not None:
                    self.same(told, least_cost(site, 27, prices))
                    dear += told > 5
        self.assertGreater(dear, 6)

    def test_never_of_three_tasks(self):
        site = HARD[:2] + ((('brush', 'saw', 'fresh', ('days', 3), (0, 0, 0)),) + HARD[2] + (('wash', 'saw', 'kept', ('days', 2), (0, 0, 1)),),)
        paper = worth_paper(site, 20, (1, (1, 1, 1)))
        self.same((paper[0], lets_worths(site, 20, (1, (1, 1, 1)), paper)), (None, None))
        self.same(paper[1], tuple(sorted(freely.all_states(site, 20))))


class TestAccepted(Case):
    def test_ordinary(self):
        self.same(lets_worths(TWO, 20, ONE, ((BOTH,), ((FIRST, 1),))), 1)
        self.same(lets_worths(thing=((BOTH,), ((FIRST, 1),)), prices=ONE, upto=20, site=TWO), 1)

    def test_without_worths(self):
        self.same(lets_worths(TWO, 20, ZERO, ((BOTH,), ())), 0)
        self.same(lets_worths(SITE, 6, PRICES, ((), ())), 0)
        self.same(lets_worths(EMPTY, 27, (5, ()), ((), ())), 0)

    def test_any_number_without_a_next_visit(self):
        # In this state the least late day is not behind its day: whatever its number is, it is not too great.
        for number in (0, 7, 10 ** 59):
            self.same(lets_worths(TWO, 20, ONE, ((BOTH,), ((FIRST, 1), ((15, (0, 0)), number)))), 1)

    def test_states_that_are_over_with_0(self):
        self.same(lets_worths(TWO, 20, ONE, ((BOTH,), ((FIRST, 1), ((10, (10, 10)), 0)))), 1)
        self.same(lets_worths(SITE, 6, ONE, ((), ((FIRST, 0), ((10 ** 59, (9, 10 ** 59)), 0)))), 0)

    def test_states_that_nothing_leads_to(self):
        worths = ((FIRST, 1), ((2, (0, 9)), 1), ((2, (10 ** 59, 0)), 1))
        self.same(lets_worths(TWO, 20, ONE, ((BOTH,), worths)), 1)

    def test_the_second_form(self):
        jumps = one(('hours', 5), uses=((6, 0),))
        self.same(lets_worths(jumps, 1, (1, (1,)), (None, ((-1, (0,)),))), None)
        # More states than those that are reached.
        self.same(lets_worths(jumps, 3, (1, (1,)), (None, ((-1, (0,)), (0, (1,)), (2, (2,))))), None)


class TestErrors(Case):
    def wrong(self, word, at, thing, site=TWO, upto=20, prices=ONE):
        self.raises(InvalidPaper, {'word': word, 'at': at}, lets_worths, site, upto, prices, thing)
        self.same(faults.worths_fault(site, upto, prices, thing), (word, at))

    def test_shape(self):
        pair = (FIRST, 1)
        for odd in ODD + (
            (BOTH,), ((BOTH,),), [(BOTH,), (pair,)], ((BOTH,), [pair]), ((BOTH,), (pair,), 1), ((BOTH,), None), ((BOTH,), (pair, FIRST + (1,))),
            ((BOTH,), (list(pair),)), ((BOTH,), ((FIRST,),)), ((BOTH,), ((FIRST, 1, 2),)), ((BOTH,), 'ab'), ((BOTH,), ('ab',)),
            (None, [FIRST]), (None, None), (None, (FIRST,), 1), [None, (FIRST,)], (pair, None), 'ab',
        ):
            self.wrong('shape', -1, odd)
            self.wrong('shape', -1, odd, EMPTY, 0, (0, ()))
        for number in NO_NUMBER:
            self.wrong('shape', -1, ((BOTH,), (pair, (pair, number))))
            self.wrong('shape', -1, (5, (((15, (0, 0)), number),)))

    def test_the_errors_of_the_free_visits_ahead_of_the_states(self):
        for rows in ((), ((FIRST, 9),), ((None, 0), (FIRST, 1))):
            for free in (5, True, 'ab', [BOTH], (BOTH[:1],), ((10, ['belt']),), ((True, ('belt',)),)):
                self.wrong('shape', -1, (free, rows))
            self.wrong('day', 0, (((21, ('belt',)),), rows))
            self.wrong('day', 1, ((BOTH, BOTH), rows))
            self.wrong('missed', 0, (((11, ('belt',)),), rows))
            self.wrong('names', 0, (((10, ('grease', 'belt')),), rows))
            self.wrong('names', 0, (((10, ()),), rows))
            self.wrong('task', (0, 0), (((0, ('belt', 'grease')),), rows))
            self.wrong('missed', -1, ((), rows))
            self.wrong('missed', -1, (((10, ('grease',)),), rows))

    def test_state(self):
        for odd in ODD + (
            [-1, (0, 0)], (-1, [0, 0]), (-2, (0, 0)), (True, (0, 0)), (None, (0, 0)), ('0', (0, 0)), (-1, (0,)), (-1, (0, 0, 0)), (-1, (0, -1)),
            (-1, (0, True)), (-1,), (-1, (0, 0), 1), ((0, 0), -1), -1, (-1, ()), (3, None), (-10 ** 59, (0, 0)),
        ):
            for number in (0, 9):
                self.wrong('state', 0, ((BOTH,), ((odd, number), (FIRST, 9))))
                self.wrong('state', 1, ((BOTH,), ((FIRST, 1), (odd, number), (odd, 0))))
            self.wrong('state', 0, (None, (odd, FIRST)))
            if odd != (-1, (0,)):
                self.wrong('state', 0, (None, (odd,)), HARD, 5, (1, (1,)))

    def test_states_out_of_order(self):
        late, later = (15, (0, 0)), (15, (0, 1))
        self.same(lets_worths(TWO, 20, ONE, ((BOTH,), ((FIRST, 1), (late, 4), (later, 4)))), 1)
        self.wrong('state', 1, ((BOTH,), ((late, 4), (FIRST, 1))))
        self.wrong('state', 2, ((BOTH,), ((FIRST, 1), (later, 4), (late, 4))))
        self.wrong('state', 2, ((BOTH,), ((FIRST, 1), (late, 4), (late, 4))))
        jumps = one(('hours', 5), uses=((6, 0),))
        states = ((-1, (0,)), (0, (1,)), (2, (2,)))
        for k, order in ((1, (1, 0, 2)), (2, (0, 2, 1)), (1, (0, 0, 1)), (2, (0, 1, 1))):
            self.wrong('state', k, (None, tuple(states[i] for i in order)), jumps, 3, (1, (1,)))

    def test_worth(self):
        self.wrong('worth', 0, ((BOTH,), ((FIRST, 2),)))
        self.wrong('worth', 1, ((BOTH,), ((FIRST, 1), ((2, (0, 9)), 2))))
        # One that is over has the number 0.
        self.wrong('worth', 1, ((BOTH,), ((FIRST, 1), ((10, (10, 10)), 1))))
        # By 10 for both it could be so much, but a visit for the grease alone costs 7, and then one for the belt 8.
        self.wrong('worth', 0, ((BOTH,), ((FIRST, 11),)), prices=PRICES)
        self.wrong('worth', 0, ((BOTH,), ((FIRST, 10),)), prices=PRICES)
        # A worth comes ahead of a state behind it.
        self.wrong('worth', 0, ((BOTH,), ((FIRST, 2), (None, 0))))
        self.wrong('worth', 0, ((BOTH,), ((FIRST, 2), (FIRST, 2))))

    def test_over(self):
        for rows in (((10, (10, 10)),), ((10, (10, 10)), FIRST)):
            self.wrong('over', 0, (None, rows))
        self.wrong('over', 0, (None, (FIRST,)), SITE, 6)
        self.wrong('over', 1, (None, ((-1, (0,)), (3, (9,)))), one(('hours', 5), uses=((6, 0),) * 9 + ((0, 0),)), 1, (1, (1,)))

    def test_next(self):
        self.wrong('next', 0, (None, (FIRST,)))
        self.wrong('next', 0, (None, (FIRST, (10, (10, 10)))))
        states = tuple(sorted(freely.all_states(HARD, 5)))
        for k in range(1, len(states)):
            told = faults.worths_fault(HARD, 5, (1, (1,)), (None, states[:k] + states[k + 1:]))
            self.wrong('next', told[1], (None, states[:k] + states[k + 1:]), HARD, 5, (1, (1,)))

    def test_first(self):
        for worths in ((), ((FIRST, 0),), (((15, (0, 0)), 9),)):
            self.wrong('first', -1, ((BOTH,), worths))
        # Other visits cost more.
        self.wrong('first', -1, (((10, ('grease',)), (12, ('belt',))), ((FIRST, 1),)))
        self.wrong('first', -1, (None, ()))
        self.wrong('first', -1, (None, ()), EMPTY, 0, (0, ()))
        states = tuple(sorted(freely.all_states(HARD, 5)))
        self.wrong('first', -1, (None, states[1:]), HARD, 5, (1, (1,)))

    def test_upto_and_prices_first(self):
        for odd in NO_NUMBER:
            for prices, thing in product((ONE, None), (None, ((BOTH,), ()))):
                self.raises(NotUsable, {'word': 'upto', 'at': -1}, lets_worths, TWO, odd, prices, thing)
                self.raises(NotUsable, {'word': 'upto', 'at': -1}, worth_paper, TWO, odd, prices)
        for odd in NO_PRICES:
            for site in (TWO, SITE):
                self.raises(NotUsable, {'word': 'prices', 'at': -1}, worth_paper, site, 20, odd)
                for thing in (None, ((BOTH,), ())):
                    self.raises(NotUsable, {'word': 'prices', 'at': -1}, lets_worths, site, 20, odd, thing)
        self.raises(NotUsable, {'word': 'prices', 'at': -1}, worth_paper, EMPTY, 20, ONE)


class TestSpoilt(Case):
    """Papers changed at one or two places, accepted just if they are as stated by a plain look at all states."""

    def test_spoilt(self):
        random = Random(43)
        seen = {}
        for site in SITES + [HARD] * 8:
            for upto in (3, 5):
                prices = prices_of(site, random)
                paper = worth_paper(site, upto, prices)
                if len(paper[1]) > 40:
                    continue
                states = [row if paper[0] is None else row[0] for row in paper[1]]
                others = tuple(states) + tuple((state, 1) for state in states) + (0, 1, (3, (site[2][0][0],)))
                for many in (1, 1, 1, 2, 2):
                    self.one(site, upto, prices, spoilt(random, paper, others, many), seen)
                for k in range(min(len(states), 6)):
                    self.one(site, upto, prices, (paper[0], paper[1][:k] + paper[1][k + 1:]), seen)
        self.same(set(seen) >= {'none', 'shape', 'state', 'worth', 'next', 'first', 'missed', 'names'}, True)

    def test_other_numbers(self):
        random = Random(44)
        seen = {}
        for site in SITES:
            for upto in (4, 6):
                prices = prices_of(site, random)
                free, worths = worth_paper(site, upto, prices)
                if free is not None and 0 < len(worths) < 60:
                    for _ in range(6):
                        k = random.randrange(len(worths))
                        more = worths[k][1] + random.choice((-1, 1, 1, 2))
                        if more >= 0:
                            self.one(site, upto, prices, (free, worths[:k] + ((worths[k][0], more),) + worths[k + 1:]), seen)
        self.assertTrue(seen['none'] > 5 and seen['worth'] > 20)

    def one(self, site, upto, prices, thing, seen):
        fault = faults.worths_fault(site, upto, prices, thing)
        word = 'none' if fault is None else fault[0]
        seen[word] = seen.get(word, 0) + 1
        if fault is None:
            want = freely.least(site, upto, prices)
            self.same(lets_worths(site, upto, prices, thing), want)
        else:
            self.raises(InvalidPaper, {'word': fault[0], 'at': fault[1]}, lets_worths, site, upto, prices, thing)


class TestTrue(Case):
    def test_nothing_is_cheaper(self):
        """(W7): what an accepted paper tells is the least cost, or none is told where none keep the site."""
        for site in SITES[:30]:
            prices = (1, (0,) * len(site[2]))
            told = lets_worths(site, 9, prices, worth_paper(site, 9, prices))
            try:
                self.same(least_cost(site, 9, prices), told)
            except NeverKept:
                self.same(told, None)


class TestExamples(Case):
    def test_worths(self):
        self.examples("""
    >>> TWO = SITE[:2] + ((('belt', 'saw', 'kept', ('days', 12), (0, 0, 0)), ('grease', 'pump', 'kept', ('days', 10), (0, 0, 0))),)
    >>> from whichfirst.worthchecker import lets_worths
    >>> lets_worths(TWO, 20, (1, (0, 0)), (((10, ('belt', 'grease')),), (((-1, (0, 0)), 1),)))
    1
        """)
