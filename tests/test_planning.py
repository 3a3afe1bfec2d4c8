"""The fewest visits ([34] to [36], by [5] and [6]; (W2) of [9])."""

import brute
import days
from helpers import NO_NUMBER, Case
from sites import CLEAN, EMPTY, MOVES, OIL, SITE, one
from whichfirst.errors import NeverKept, NotUsable
from whichfirst.goingby import are_kept, bases_after, first_bases
from whichfirst.duedays import late_day
from whichfirst.planning import fewest_visits, how_few, lighter_without
from whichfirst.sitechanges import without_task

HARD = ((('mill', ((2, 0), (20, 0))),), (('saw', ((0, 'mill'),)),), (('edge', 'saw', 'kept', ('hours', 9), (0, 0, 0)),))
TWO = SITE[:2] + ((('belt', 'saw', 'kept', ('days', 12), (0, 0, 0)), ('grease', 'pump', 'kept', ('days', 10), (0, 0, 0))),)
SITES = [SITE, MOVES, HARD, TWO] + days.small_sites(120, 34)


def told(site, upto):
    """The fewest visits, or the fields of the error."""
    try:
        return fewest_visits(site, upto)
    except NeverKept as error:
        return ('never', error.task, error.day)


def late_days(site, visits):
    bases = bases_after(site, first_bases(site), visits)
    return {task[0]: late_day(site, task[0], base) for task, base in zip(site[2], bases)}


class TestFewest(Case):
    def test_ordinary(self):
        self.same([fewest_visits(SITE, upto) for upto in (0, 6, 7, 11, 12, 20, 22)], [(), (), (6,), (6,), (6, 11), (6, 11, 16), (6, 11, 16, 21)])
        self.same(fewest_visits(upto=24, site=TWO), (10, 12, 20))
        self.same([how_few(SITE, upto) for upto in (0, 6, 7, 21, 22, 100)], [0, 0, 1, 3, 4, 19])
        self.same(how_few(upto=20, site=SITE), 3)

    def test_without_visits(self):
        for upto in (0, 60, 10 ** 59):
            for site in (EMPTY, SITE[:2] + ((),), MOVES[:2] + (MOVES[2][:1],)):
                self.same((fewest_visits(site, upto), how_few(site, upto), lighter_without(site, upto)), ((), 0, ()))

    def never(self, site, upto, task, day):
        for call in (fewest_visits, how_few, lighter_without):
            self.raises(NeverKept, {'task': task, 'day': day}, call, site, upto)

    def test_missed_at_once(self):
        # Each day's use passes the limit: the visit on day 0 helps neither a fresh task nor a kept one.
        for way in ('fresh', 'kept'):
            site = one(('hours', 5), way=way, uses=((6, 0),))
            self.same(fewest_visits(site, 0), ())
            self.never(site, 1, 'task', 0)
            self.never(site, 10 ** 59, 'task', 0)

    def test_missed_behind_some_visits(self):
        self.same([fewest_visits(HARD, 0), fewest_visits(HARD, 1)], [(), ()])
        self.never(HARD, 2, 'edge', 1)
        self.never(HARD, 5, 'edge', 1)
        site = one(('hours', 2), (1, 0, 0), uses=((1, 0), (1, 0), (1, 0), (3, 0)))
        self.same([fewest_visits(site, upto) for upto in (3, 4)], [(), (3,)])
        self.never(site, 5, 'task', 4)

    def test_two_tasks_with_one_late_day(self):
        def tasks(*names):
            return one(('days', 1))[:2] + (tuple((name, 'one', 'kept', ('hours', 3), (0, 0, 0)) for name in names),)
        same = ((('one', ((1, 0), (1, 0), (1, 0), (9, 0))),),) + tasks('a', 'b')[1:]
        self.same(fewest_visits(same, 3), ())
        self.never(same, 4, 'a', 3)
        self.never(((('one', ((1, 0), (1, 0), (1, 0), (9, 0))),),) + tasks('b', 'c', 'd')[1:], 9, 'b', 3)
        self.same(fewest_visits(SITE, 7), (6,))

    def test_the_greedy_row(self):
        """Each visit is on the least late day behind those before; at the end none is ahead of the day asked for."""
        for site in SITES:
            for upto in (0, 3, 9, 17, 33):
                visits = told(site, upto)
                if visits[:1] == ('never',):
                    self.same((visits[1] in late_days(site, ()), visits[2] < upto), (True, True))
                    continue
                for k, day in enumerate(visits):
                    late = [at for at in late_days(site, visits[:k]).values() if at is not None]
                    self.same((min(late), day < upto), (day, True))
                self.assertTrue(all(at is None or at >= upto for at in late_days(site, visits).values()))
                self.assertTrue(are_kept(site, visits, upto))
                self.same(how_few(site, upto), len(visits))

    def test_never_kept_by_whom_and_when(self):
        seen = 0
        for site in SITES:
            upto = 20
            visits = told(site, upto)
            if visits[:1] == ('never',):
                seen += 1
                row, late = (), late_days(site, ())
                while True:
                    least = min(at for at in late.values() if at is not None)
                    if row and least <= row[-1]:
                        break
                    row += (least,)
                    late = late_days(site, row)
                first = [task[0] for task in site[2] if late[task[0]] == least][0]
                self.never(site, upto, first, least)
        self.assertGreater(seen, 10)


class TestLighter(Case):
    def test_ordinary(self):
        self.same(lighter_without(SITE, 17), ('oil',))
        self.same(lighter_without(SITE, 7), ())
        self.same(lighter_without(upto=24, site=TWO), ('belt', 'grease'))
        self.same(lighter_without(SITE[:2] + ((CLEAN,),), 7), ('clean',))
        self.same(lighter_without(SITE[:2] + ((OIL,),), 6), ())

    def test_as_defined(self):
        seen = 0
        for site in SITES:
            for upto in (5, 14, 22):
                if told(site, upto)[:1] != ('never',):
                    names = [task[0] for task in site[2]]
                    rest = [without_task(site, name) for name in names]
                    want = [name for name, less in zip(names, rest) if brute.fewest(less, upto) < brute.fewest(site, upto)]
                    self.same(lighter_without(site, upto), tuple(want))
                    self.assertTrue(all(how_few(less, upto) <= how_few(site, upto) for less in rest))
                    seen += len(want) > 0
        self.assertGreater(seen, 40)


class TestExact(Case):
    """(W2) and [36], each compared with all sets of days."""

    def test_all_sets_of_days(self):
        never = 0
        for site in SITES[:70]:
            for upto in (4, 8):
                sets = brute.all_keeping(site, upto)
                visits = told(site, upto)
                if visits[:1] == ('never',):
                    self.same(sets, [])
                    never += 1
                else:
                    self.same(min(map(len, sets)), len(visits))
                    # Each of any others is no later than the one of the greedy row at its place.
                    for other in sets:
                        self.assertTrue(all(day <= greedy for day, greedy in zip(other, visits)))
        self.assertTrue(8 < never < 100)

    def test_later_days(self):
        for site in SITES:
            for upto in (1, 13, 26):
                visits = told(site, upto)
                self.same(brute.fewest(site, upto), None if visits[:1] == ('never',) else len(visits))

    def test_the_plain_looks_agree(self):
        for site in SITES[:25]:
            for upto in range(8):
                sets = brute.all_keeping(site, upto)
                self.same(brute.fewest(site, upto), min(map(len, sets)) if sets else None)
                self.same([visits for visits in sets if are_kept(site, visits, upto)], sets)


class TestWrong(Case):
    def test_upto(self):
        for call in (fewest_visits, how_few, lighter_without):
            for site in (SITE, HARD, EMPTY):
                for odd in NO_NUMBER:
                    self.raises(NotUsable, {'word': 'upto', 'at': -1}, call, site, odd)


class TestExamples(Case):
    def test_fewest(self):
        self.examples("""
    >>> from whichfirst.planning import fewest_visits, how_few, lighter_without
    >>> [fewest_visits(SITE, 20), how_few(SITE, 21), how_few(SITE, 22), fewest_visits(SITE, 6)]
    [(6, 11, 16), 3, 4, ()]
    >>> lighter_without(SITE, 17)
    ('oil',)
        """)
