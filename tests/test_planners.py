"""A planner ([45], on [34]; the consequences [46])."""

import days
from helpers import NO_NUMBER, ODD, Case
from sites import EMPTY, MOVES, SITE, one
from test_kinds import nested
from whichfirst.duedays import late_day
from whichfirst.errors import NeverKept, NotUsable
from whichfirst.goingby import are_kept, bases_after, first_bases
from whichfirst.planners import Planner
from whichfirst.planning import fewest_visits, how_few
from whichfirst.sheets import Sheet
from whichfirst.sitechanges import with_limit, without_task

HARD = ((('mill', ((2, 0), (20, 0))),), (('saw', ((0, 'mill'),)),), (('edge', 'saw', 'kept', ('hours', 9), (0, 0, 0)),))
STOPS = one(('hours', 2), way='fresh', uses=((1, 0), (1, 0), (1, 0), (1, 0), (0, 0)))
SITES = [SITE, MOVES, HARD, STOPS, EMPTY] + days.small_sites(100, 45)


def state_of(planner):
    return (planner.site, planner.upto, planner.visits, planner.reasons, planner.last, list(planner), len(planner))


def planners():
    """A Planner for each site and for some days, where some visits keep the site."""
    found = []
    for site in SITES:
        for upto in (0, 7, 18):
            try:
                found.append(Planner(site, upto))
            except NeverKept:
                pass
    return found


def late_days(site, visits):
    bases = bases_after(site, first_bases(site), visits)
    return {task[0]: late_day(site, task[0], base) for task, base in zip(site[2], bases)}


class TestMaking(Case):
    def test_properties(self):
        planner = Planner(SITE, 20)
        self.same((planner.site, planner.upto, planner.visits, planner.last), (SITE, 20, (6, 11, 16), 21))
        self.same(planner.reasons, (('clean', 'oil'), ('oil',), ('oil',)))
        self.same(state_of(Planner(upto=6, site=SITE)), (SITE, 6, (), (), 6, [], 0))
        self.same(state_of(Planner(EMPTY, 10 ** 59)), (EMPTY, 10 ** 59, (), (), None, [], 0))
        self.same(state_of(Planner(STOPS, 9)), (STOPS, 9, (2,), (('task',),), None, [2], 1))
        self.same(len(Planner(SITE, 100)), 19)

    def test_as_planned(self):
        for planner in planners():
            site, upto = planner.site, planner.upto
            self.same(planner.visits, fewest_visits(site, upto))
            for k, day in enumerate(planner.visits):
                late = late_days(site, planner.visits[:k])
                self.same(planner.reasons[k], tuple(task[0] for task in site[2] if late[task[0]] == day))
            self.same(len(planner.reasons), len(planner.visits))

    def test_last(self):
        """It is the least late day behind the visits, and the last day up to which they keep the site."""
        for planner in planners():
            late = [day for day in late_days(planner.site, planner.visits).values() if day is not None]
            self.same(planner.last, min(late, default=None))
            if planner.last is None:
                self.assertTrue(are_kept(planner.site, planner.visits, 10 ** 59))
            else:
                kept = [are_kept(planner.site, planner.visits, day) for day in range(planner.upto, planner.last + 3)]
                self.same(kept, [True] * (planner.last - planner.upto + 1) + [False, False])

    def test_wrong(self):
        for odd in NO_NUMBER:
            for site in (SITE, HARD, EMPTY):
                self.raises(NotUsable, {'word': 'upto', 'at': -1}, Planner, site, odd)
        self.raises(NeverKept, {'task': 'edge', 'day': 1}, Planner, HARD, 5)

    def test_only_upto_can_be_set(self):
        planner = Planner(SITE, 20)
        for name in ('site', 'visits', 'reasons', 'last'):
            self.assertRaises(AttributeError, setattr, planner, name, ())
        self.same(state_of(planner), state_of(Planner(SITE, 20)))


class TestUpto(Case):
    def test_set(self):
        planner = Planner(SITE, 20)
        for upto in (22, 0, 6, 7, 60, 20):
            planner.upto = upto
            self.same(state_of(planner), state_of(Planner(SITE, upto)))

    def test_an_error_changes_nothing(self):
        planner, hard = Planner(SITE, 20), Planner(HARD, 1)
        for odd in NO_NUMBER:
            self.raises(NotUsable, {'word': 'upto', 'at': -1}, setattr, planner, 'upto', odd)
        self.raises(NeverKept, {'task': 'edge', 'day': 1}, setattr, hard, 'upto', 5)
        self.same(state_of(planner), state_of(Planner(SITE, 20)))
        self.same(state_of(hard), (HARD, 1, (), (), 1, [], 0))


class TestLongerAndShorter(Case):
    def test_ordinary(self):
        planner = Planner(SITE, 0)
        self.same([planner.longer() for _ in range(4)], [6, 11, 16, 21])
        self.same((planner.upto, planner.visits), (22, (6, 11, 16, 21)))
        self.same([planner.shorter() for _ in range(5)], [21, 16, 11, 6, None])
        self.same(state_of(planner), (SITE, 6, (), (), 6, [], 0))

    def test_where_nothing_is_missed_any_more(self):
        planner = Planner(STOPS, 0)
        self.same((planner.longer(), planner.last), (2, None))
        before = state_of(planner)
        self.same((planner.longer(), state_of(planner)), (None, before))
        self.same((planner.shorter(), planner.last, planner.shorter(), planner.upto), (2, 2, None, 2))
        empty = Planner(EMPTY, 3)
        self.same((empty.longer(), empty.shorter(), empty.upto), (None, None, 3))

    def test_never_kept_changes_nothing(self):
        planner = Planner(HARD, 0)
        for _ in range(2):
            self.raises(NeverKept, {'task': 'edge', 'day': 1}, planner.longer)
            self.same(state_of(planner), (HARD, 0, (), (), 1, [], 0))
        never = Planner(one(('hours', 5), uses=((6, 0),)), 0)
        self.raises(NeverKept, {'task': 'task', 'day': 0}, never.longer)
        self.same((never.upto, never.last), (0, 0))

    def test_one_visit_more_and_one_less(self):
        raised = 0
        for planner in planners():
            site, upto, many, last = planner.site, planner.upto, len(planner), planner.last
            before = state_of(planner)
            if last is None:
                continue
            try:
                visit = planner.longer()
            except NeverKept:
                raised += 1
                self.same(state_of(planner), before)
                continue
            self.same((visit, planner.upto, len(planner), planner.visits[-1]), (last, last + 1, many + 1, last))
            # For each day before no visit more was needed.
            self.assertTrue(all(how_few(site, day) == many for day in range(upto, planner.upto)))
            # Behind longer, shorter returns the same day.
            self.same((planner.shorter(), len(planner), planner.upto), (visit, many, visit))
            self.assertTrue(how_few(site, planner.upto) == many < how_few(site, planner.upto + 1))
        self.assertGreater(raised, 5)


class TestRead(Case):
    def test_items(self):
        planner = Planner(SITE, 20)
        self.same([planner[0], planner[1], planner[2]], [6, 11, 16])
        for odd in ODD + (3, -1, -3, 10 ** 59, slice(0, 2), '0'):
            self.raises(NotUsable, {'word': 'visit', 'at': -1}, lambda: planner[odd])
        for odd in ODD + (0,):
            self.raises(NotUsable, {'word': 'visit', 'at': -1}, lambda: Planner(SITE, 6)[odd])

    def test_contained(self):
        planner = Planner(SITE, 20)
        self.same([day in planner for day in (6, 11, 16, 5, 21, 0)], [True, True, True, False, False, False])
        for odd in ODD + ((6,), '6', planner, (6, 11, 16)):
            self.same(odd in planner, False)
        ones = Planner(one(('days', 1)), 3)
        self.same((ones.visits, 1 in ones, True in ones, False in ones), ((1, 2), True, False, False))

    def test_iterated(self):
        planner = Planner(SITE, 20)
        self.same([(day, other) for day in planner for other in planner][:4], [(6, 6), (6, 11), (6, 16), (11, 6)])
        self.same((list(planner), len(planner)), ([6, 11, 16], 3))
        for k, day in enumerate(planner):
            if k == 0:
                planner.upto = 6
        self.same((day, list(planner)), (16, []))

    def test_equal(self):
        planner, other = Planner(SITE, 20), Planner(SITE, 21)
        self.same((planner.visits, planner == other, planner != other), (other.visits, False, True))
        other.upto = 20
        self.same((planner == other, planner != other), (True, False))
        self.same(planner == Planner(without_task(SITE, 'clean'), 20), False)
        self.same(Planner(EMPTY, 3) == Planner(EMPTY, 3), True)
        self.same(Planner(EMPTY, 3) == Planner(SITE[:2] + ((),), 3), False)
        for value in ODD + (20, (SITE, 20), planner.visits, object(), Planner, Sheet(SITE, today=20)):
            self.same((planner == value, value == planner, planner != value), (False, False, True))

    def test_equal_with_deep_limits(self):
        deep, other = [with_limit(SITE, 'oil', ('first', (nested(2000), ('days', n))), (0, 0, 0)) for n in (1, 2)]
        self.same((Planner(deep, 1) == Planner(deep, 1), Planner(deep, 1) == Planner(other, 1)), (True, False))

    def test_copy(self):
        planner = Planner(SITE, 20)
        other = planner.copy()
        self.assertIs(type(other), Planner)
        self.assertTrue(other is not planner and other == planner)
        self.same(other.longer(), 21)
        self.same((planner.upto, other.upto), (20, 22))
        planner.upto = 0
        self.same((planner.visits, other.visits), ((), (6, 11, 16, 21)))


class TestExamples(Case):
    def test_planner(self):
        self.examples("""
    >>> from whichfirst.planners import Planner
    >>> planner = Planner(SITE, 20)
    >>> [planner.visits, planner.reasons, planner.last, planner.longer(), planner.upto, planner.shorter(), planner.upto, len(planner)]
    [(6, 11, 16), (('clean', 'oil'), ('oil',), ('oil',)), 21, 21, 22, 21, 21, 3]
        """)
