"""Visits that go by ([27] to [29], by [6]; the consequences [30])."""

from itertools import combinations
from random import Random

import days
from days import Story
from helpers import ODD, Case
from sites import CLEAN, EMPTY, MOVES, OIL, SITE, one
from whichfirst.errors import NotUsable
from whichfirst.goingby import are_kept, bases_after, done_on, first_bases, missed_by, story_of

NO_DAY = (-1, True, False, None, '0', (), (0,), [0], -10 ** 59)
NO_BASES = ODD + ((0,), (0, 0, 0), [0, 0], (0, -1), (-1, 0), (True, 0), (0, False), (0, None), ('0', 0), 'ab', ((0, 0),))
NO_DAYS = tuple(value for value in ODD if not isinstance(value, tuple)) + ([1, 2], range(3), 5, {})
SITES = [SITE, MOVES, one(('hours', 2), (1, 0, 0), uses=((3, 0),))] + days.small_sites(50, 27)


def some_visits(site, many=6):
    """Sets of days, also without one, with day 0, and far behind; of each site others."""
    random = Random(repr(site))
    found = [(), (0,), tuple(range(12)), (3, 4, 40)]
    return found + [tuple(sorted(random.sample(range(26), random.randint(1, 9)))) for _ in range(many)]


def some_bases(site, many=5):
    random = Random(repr(site))
    return [tuple(random.randint(0, 15) for _ in site[2]) for _ in range(many)] + [first_bases(site)]


class TestBases(Case):
    def test_at_first(self):
        self.same([first_bases(site) for site in (SITE, MOVES, EMPTY)], [(0, 0), (0, 0, 0, 0), ()])
        self.same(first_bases(site=SITE), (0, 0))

    def test_done_on(self):
        self.same([done_on(SITE, (0, 0), day) for day in (3, 4, 6, 7)], [('clean',), ('clean', 'oil'), ('clean', 'oil'), ('clean',)])
        self.same(done_on(SITE, (0, 5), 8), ('clean',))
        self.same(done_on(day=9, bases=(0, 5), site=SITE), ('clean', 'oil'))
        self.same(done_on(SITE[:2] + ((OIL,),), (5,), 5), ())
        self.same(done_on(EMPTY, (), 3), ())

    def test_whatever_day_the_bases_are(self):
        self.same(done_on(SITE, (50, 50), 3), ('clean',))
        self.same(done_on(SITE, (50, 50), 55), ('clean', 'oil'))
        self.same(bases_after(SITE, (50, 50), (3,)), (3, 50))

    def test_a_base_that_stays(self):
        # Its base is its due day: one day's use passes the limit, the widened one lets it be for a day.
        site = one(('hours', 2), (1, 0, 0), uses=((3, 0),))
        self.same([done_on(site, (4,), day) for day in (4, 5, 6)], [(), ('task',), ()])
        self.same(bases_after(site, (4,), (5,)), (4,))
        self.same(bases_after(SITE, (6, 0), (6,)), (6, 5))

    def test_done_more_than_once_at_a_visit(self):
        site = one(('days', 2), (0, 0, 5))
        # The windows of the bases 0, 2, 4, 6 begin on the days 1, 3, 5, 7; that of base 0 ends on day 7.
        self.same([bases_after(site, (0,), (day,)) for day in range(9)], [(base,) for base in (0, 2, 2, 4, 4, 6, 6, 8, 0)])
        self.same(bases_after(site, (0,), (1, 2, 7)), (8,))

    def test_one_after_the_other(self):
        self.same(bases_after(SITE, (0, 0), ()), (0, 0))
        self.same(bases_after(SITE, (3, 9), ()), (3, 9))
        self.same(bases_after(SITE, (0, 0), (6,)), (6, 5))
        self.same(bases_after(days=(6, 11, 16), bases=(0, 0), site=SITE), (16, 15))
        self.same(bases_after(EMPTY, (), (1, 2)), ())

    def test_as_defined(self):
        for site in SITES:
            for bases in some_bases(site):
                for visits in some_visits(site, 3):
                    self.same(bases_after(site, bases, visits), tuple(Story(site, visits, bases=bases).bases))
                for day in range(0, 24, 3):
                    want = [task[0] for task, base in zip(site[2], bases) if days.doings(site, task, base, day)]
                    self.same(done_on(site, bases, day), tuple(want))


class TestMissed(Case):
    def test_ordinary(self):
        self.same(missed_by(SITE, (), 6), ())
        self.same(missed_by(SITE, (), 7), (('clean', 6), ('oil', 6)))
        self.same(missed_by(SITE, (6, 11, 16), 20), ())
        self.same(missed_by(SITE, (6, 11, 16), 22), (('oil', 21),))
        self.same(missed_by(upto=20, days=(3, 8), site=SITE), (('clean', 14), ('oil', 6)))
        self.same(missed_by(EMPTY, (1, 2), 99), ())

    def test_visits_behind_the_day_count_too(self):
        self.same(missed_by(SITE, (8,), 0), (('clean', 6), ('oil', 6)))
        self.same(missed_by(SITE, (6, 13), 6), (('clean', 12), ('oil', 11)))
        self.same(missed_by(SITE, (6, 11, 30), 11), (('clean', 17), ('oil', 16)))

    def test_a_fresh_one_is_missed_several_times(self):
        site = SITE[:2] + ((CLEAN,),)
        self.same(missed_by(site, (8, 20), 50), (('clean', 6), ('clean', 14), ('clean', 26)))

    def test_by_number_and_not_by_letter(self):
        site = SITE[:2] + ((CLEAN,),)
        self.same(missed_by(site, (94, 200), 300), (('clean', 6), ('clean', 100), ('clean', 206)))

    def test_kept(self):
        self.same([are_kept(SITE, (6, 11, 16), upto) for upto in (16, 20, 21, 22)], [True, True, True, False])
        self.same(are_kept(upto=0, days=(), site=SITE), True)
        self.same(are_kept(SITE, (), 6), True)
        self.same(are_kept(SITE, (), 7), False)
        self.same(are_kept(EMPTY, (), 10 ** 59), True)

    def test_a_visit_behind_the_day_is_none_that_keeps(self):
        self.same(are_kept(SITE, (6,), 6), True)
        self.same(are_kept(SITE, (6,), 5), False)
        self.same(are_kept(EMPTY, (1,), 0), False)

    def test_as_defined(self):
        for site in SITES:
            for visits in some_visits(site):
                for upto in (0, 3, 9, 17, 26):
                    missed = Story(site, visits, upto).missed
                    self.same(missed_by(site, visits, upto), tuple(sorted(missed)))
                    self.same(are_kept(site, visits, upto), not missed and all(day <= upto for day in visits))


class TestStory(Case):
    def test_ordinary(self):
        self.same(story_of(SITE, ()), ())
        self.same(story_of(site=SITE, days=(3,)), ((3, 'clean', 0, 3),))
        self.same(story_of(SITE, (0,)), ((0, 'clean', 0, 0),))

    def test_done_more_than_once(self):
        site = one(('days', 2), (0, 0, 5))
        self.same(story_of(site, (6,)), ((6, 'task', 0, 2), (6, 'task', 2, 4), (6, 'task', 4, 6)))
        self.same(story_of(site, (2, 3, 9)), ((2, 'task', 0, 2), (3, 'task', 2, 4)) + tuple((9, 'task', k, k + 2) for k in (4, 6, 8)))

    def test_a_base_that_stays_has_its_row(self):
        uses = ((1, 0), (1, 0), (3, 0))
        site = one(('hours', 2), (1, 0, 0), uses=uses)
        # On day 2 the first window, on day 3 the one whose base is its own due day.
        self.same(story_of(site, (2, 3)), ((2, 'task', 0, 2), (3, 'task', 2, 2)))
        self.same(story_of(one(('hours', 2), (1, 0, 0), uses=((3, 0),)), (1,)), ((1, 'task', 0, 0),))

    def test_as_defined(self):
        for site in SITES:
            for visits in some_visits(site):
                self.same(story_of(site, visits), tuple(Story(site, visits).rows))

    def test_rows_and_bases_agree(self):
        for site in SITES:
            for visits in some_visits(site, 3):
                bases = dict(zip([task[0] for task in site[2]], first_bases(site)))
                for day, name, before, behind in story_of(site, visits):
                    self.assertEqual(bases[name], before)
                    bases[name] = behind
                self.assertEqual(tuple(bases.values()), bases_after(site, first_bases(site), visits))


class TestConsequences(Case):
    def test_what_is_not_done_keeps_its_base(self):
        for site in SITES:
            for bases in some_bases(site):
                for day in range(0, 20, 2):
                    done, behind = done_on(site, bases, day), bases_after(site, bases, (day,))
                    for task, before, base in zip(site[2], bases, behind):
                        self.assertTrue(task[0] in done or before == base)

    def test_a_kept_task_that_is_missed_is_never_done_again(self):
        for site in SITES:
            kept = [task[0] for task in site[2] if task[2] == 'kept']
            for visits in some_visits(site):
                missed = [row for row in missed_by(site, visits, 30) if row[0] in kept]
                self.assertEqual(len(missed), len({name for name, _ in missed}))
                for name, late in missed:
                    self.assertTrue(all(row[0] <= late for row in story_of(site, visits) if row[1] == name))

    def test_missed_up_to_each_later_day(self):
        for site in SITES:
            for visits in some_visits(site, 3):
                told = [set(missed_by(site, visits, upto)) for upto in range(0, 30, 3)]
                self.assertTrue(all(before <= behind for before, behind in zip(told, told[1:])))

    def test_one_visit_more(self):
        kept = 0
        for site in SITES[:3] + [site for site in SITES if all(task[4][2] for task in site[2])]:
            for upto in (4, 7):
                for many in range(4):
                    for visits in combinations(range(upto + 1), many):
                        if are_kept(site, visits, upto):
                            kept += 1
                            for day in set(range(upto + 1)) - set(visits):
                                self.assertTrue(are_kept(site, tuple(sorted(visits + (day,))), upto))
        self.assertGreater(kept, 200)


class TestWrong(Case):
    def wrong(self, word, call, *args, at=-1):
        self.raises(NotUsable, {'word': word, 'at': at}, call, *args)

    def test_bases(self):
        for odd in NO_BASES:
            if odd != ():
                self.wrong('bases', done_on, EMPTY, odd, 0)
            for behind in (0, -1, None, [3]):
                self.wrong('bases', done_on, SITE, odd, behind)
                self.wrong('bases', bases_after, SITE, odd, behind)
            self.wrong('bases', bases_after, SITE, odd, (1, 2))

    def test_day(self):
        for odd in NO_DAY:
            self.wrong('day', done_on, SITE, (0, 0), odd)

    def test_days_that_are_no_tuple(self):
        for odd in NO_DAYS:
            self.wrong('days', bases_after, SITE, (0, 0), odd)
            self.wrong('days', story_of, SITE, odd)
            for upto in (9, -1, None):
                self.wrong('days', missed_by, SITE, odd, upto)
                self.wrong('days', are_kept, SITE, odd, upto)

    def test_elements_of_days(self):
        for odd, k in (
            ((True,), 0), ((False, 1), 0), ((-1,), 0), ((None, 2), 0), (('1',), 0), (((1,),), 0), (([1],), 0), ((0, True), 1),
            ((1, 1), 1), ((2, 1), 1), ((0, 3, 5, 4), 3), ((0, 3, 3, -1), 2), ((1, 2, None, 2), 2), ((5, 10 ** 59, 9, True), 2),
            ((0, False), 1), ((1, 2, '3'), 2),
        ):
            self.wrong('days', bases_after, SITE, (0, 0), odd, at=k)
            self.wrong('days', story_of, SITE, odd, at=k)
            for upto in (9, -1, None):
                self.wrong('days', missed_by, SITE, odd, upto, at=k)
                self.wrong('days', are_kept, SITE, odd, upto, at=k)

    def test_upto(self):
        for odd in NO_DAY:
            for visits in ((), (6, 11)):
                self.wrong('upto', missed_by, SITE, visits, odd)
                self.wrong('upto', are_kept, SITE, visits, odd)

    def test_lists_stay_as_they_are(self):
        bases, visits = [0, [0]], [6, 11]
        self.wrong('bases', bases_after, SITE, bases, visits)
        self.wrong('days', story_of, SITE, visits)
        self.same((bases, visits), ([0, [0]], [6, 11]))


class TestExamples(Case):
    def test_visits(self):
        self.examples("""
    >>> from whichfirst.goingby import are_kept, bases_after, done_on, first_bases, missed_by, story_of
    >>> [first_bases(SITE), done_on(SITE, (0, 0), 3), bases_after(SITE, (0, 0), (6, 11))]
    [(0, 0), ('clean',), (11, 10)]
    >>> [are_kept(SITE, (6, 11, 16), 20), are_kept(SITE, (6, 11, 16, 21), 20), missed_by(SITE, (3, 8), 20)]
    [True, False, (('clean', 14), ('oil', 6))]
    >>> story_of(SITE, (6, 8))
    ((6, 'clean', 0, 6), (6, 'oil', 0, 5), (8, 'clean', 6, 8))
        """)
