"""A sheet ([32], by [6], [27] and [31]; the consequences [33])."""

from copy import copy
from itertools import combinations
from random import Random

import days
from helpers import NO_NAME, NO_NUMBER, ODD, Case
from sites import CLEAN, EMPTY, MOVES, OIL, SITE, one
from test_kinds import nested
from whichfirst.dues import Due
from whichfirst.duedays import late_day
from whichfirst.errors import NotUsable
from whichfirst.exchanges import first_late
from whichfirst.goingby import bases_after, done_on, first_bases
from whichfirst.planners import Planner
from whichfirst.sheets import Sheet
from whichfirst.sitechanges import with_limit

SITES = [SITE, MOVES, EMPTY, one(('days', 2), (0, 0, 5)), one(('hours', 2), (1, 0, 0), uses=((3, 0),))] + days.small_sites(60, 32)


def state_of(sheet):
    dues = [(due.name, due.base, due.late_on) for due in sheet.dues]
    return (sheet.today, sheet.bases, dues, sheet.overdue, list(sheet), len(sheet), [name for name in sheet if name in sheet])


def some_sheets():
    """Sheets of all sites on some days, with some of what can be done done."""
    random = Random(32)
    found = []
    for site in SITES:
        for _ in range(3):
            sheet = Sheet(site)
            for _ in range(random.randint(0, 4)):
                sheet += random.randint(0, 6)
                sheet.doing(tuple(name for name in sheet if name in sheet and random.random() < 0.7))
            found.append((site, sheet))
    return found


def moved_on(sheet, by):
    sheet += by
    return sheet


class TestMaking(Case):
    def test_ordinary(self):
        sheet = Sheet(SITE)
        self.same((sheet.today, sheet.bases, sheet.overdue, list(sheet), len(sheet)), (0, (0, 0), (), ['clean', 'oil'], 2))
        self.same((Sheet(site=SITE, today=7).today, Sheet(SITE, today=7).overdue), (7, ('clean', 'oil')))
        self.same(state_of(Sheet(EMPTY, today=4)), (4, (), [], (), [], 0, []))
        self.same(Sheet(SITE, today=10 ** 59).today, 10 ** 59)

    def test_today_by_name_only(self):
        self.assertRaises(TypeError, Sheet, SITE, 5)
        self.assertRaises(TypeError, Sheet)

    def test_wrong(self):
        for odd in NO_NUMBER:
            self.raises(NotUsable, {'word': 'today', 'at': -1}, Sheet, SITE, today=odd)

    def test_what_cannot_be_set(self):
        sheet = Sheet(SITE, today=5)
        for name in ('bases', 'dues', 'overdue'):
            self.assertRaises(AttributeError, setattr, sheet, name, ())
        self.same(state_of(sheet), state_of(Sheet(SITE, today=5)))


class TestDays(Case):
    def test_set(self):
        sheet = Sheet(SITE)
        for today in (0, 3, 3, 6, 7, 10 ** 59):
            sheet.today = today
            self.same(state_of(sheet), state_of(Sheet(SITE, today=today)))

    def test_set_wrong_changes_nothing(self):
        sheet = Sheet(SITE, today=5)
        for odd in NO_NUMBER + (4, 0):
            self.raises(NotUsable, {'word': 'today', 'at': -1}, setattr, sheet, 'today', odd)
            self.same(state_of(sheet), state_of(Sheet(SITE, today=5)))

    def test_later(self):
        sheet = kept = Sheet(SITE, today=2)
        for by, today in ((0, 2), (3, 5), (10 ** 59, 10 ** 59 + 5)):
            sheet += by
            self.assertIs(sheet, kept)
            self.same(state_of(sheet), state_of(Sheet(SITE, today=today)))

    def test_later_wrong_changes_nothing(self):
        sheet = Sheet(SITE, today=5)
        for odd in NO_NUMBER + (sheet,):
            self.raises(NotUsable, {'word': 'days', 'at': -1}, moved_on, sheet, odd)
            self.same(state_of(sheet), state_of(Sheet(SITE, today=5)))


class TestRead(Case):
    def test_dues(self):
        for site, sheet in some_sheets():
            dues = sheet.dues
            self.assertIs(type(dues), tuple)
            self.assertTrue(all(type(due) is Due for due in dues))
            self.same(sorted((due.name, due.base) for due in dues), list(zip(sheet, sheet.bases)))
            self.assertTrue(all(due < other for due, other in zip(dues, dues[1:])))
        self.same([(due.name, due.late_on) for due in Sheet(MOVES).dues], [('rinse', 2), ('turn', 4), ('grease', 8), ('check', None)])

    def test_overdue(self):
        self.same([Sheet(SITE, today=day).overdue for day in (6, 7)], [(), ('clean', 'oil')])
        for site, sheet in some_sheets():
            late = [late_day(site, name, base) for name, base in zip(sheet, sheet.bases)]
            want = tuple(name for name, day in zip(sheet, late) if day is not None and day < sheet.today)
            self.same(sheet.overdue, want)

    def test_contained(self):
        self.same([['clean' in Sheet(SITE, today=day), 'oil' in Sheet(SITE, today=day)] for day in (3, 4, 6, 7)], [[True, False], [True, True], [True, True], [True, False]])
        for site, sheet in some_sheets():
            self.same(tuple(name for name in sheet if name in sheet), done_on(site, sheet.bases, sheet.today))
            for odd in ODD + NO_NAME + ('pump', sheet, Due(SITE, 'oil', 0)):
                self.same(odd in sheet, False)

    def test_iterated(self):
        sheet = Sheet(SITE)
        self.same([(name, other) for name in sheet for other in sheet], [(a, b) for a in ('clean', 'oil') for b in ('clean', 'oil')])

    def test_equal(self):
        sheet = Sheet(SITE, today=5)
        self.same((sheet == Sheet(SITE, today=5), sheet != Sheet(SITE, today=5)), (True, False))
        self.same((sheet == Sheet(SITE), sheet == Sheet(EMPTY, today=5), Sheet(EMPTY) == Sheet(EMPTY)), (False, False, True))
        self.same(sheet == Sheet(SITE[:2] + ((CLEAN, OIL[:4] + ((8, 0, 2),)),), today=5), False)
        other = Sheet(SITE, today=5)
        other.doing(('oil',))
        self.same(sheet == other, False)
        sheet.doing(('oil',))
        self.same(sheet == other, True)
        for value in ODD + (5, (SITE, 5, (0, 0)), object(), Sheet, Planner(SITE, 5)):
            self.same((sheet == value, value == sheet, sheet != value), (False, False, True))

    def test_equal_with_deep_limits(self):
        deep, other = [with_limit(SITE, 'oil', ('first', (nested(2000), ('days', n))), (0, 0, 0)) for n in (1, 2)]
        self.same((Sheet(deep) == Sheet(deep), Sheet(deep) == Sheet(other)), (True, False))


class TestDoing(Case):
    def test_ordinary(self):
        sheet = Sheet(SITE, today=5)
        self.same((sheet.doing(()), sheet.bases), (('clean', 'oil'), (0, 0)))
        self.same((sheet.doing(('oil',)), sheet.bases), (('clean',), (0, 5)))
        self.same((sheet.doing(names=('clean',)), sheet.bases), (('clean',), (5, 5)))
        sheet.today = 9
        self.same((sheet.doing(('clean', 'oil')), sheet.bases), (('clean',), (9, 10)))
        self.same((Sheet(EMPTY).doing(()), Sheet(EMPTY).bases), ((), ()))

    def test_for_two_windows_at_once(self):
        site = one(('days', 2), (0, 0, 5))
        sheet = Sheet(site, today=6)
        self.same((sheet.doing(('task',)), sheet.bases), ((), (6,)))
        sheet += 1
        self.same(('task' in sheet, sheet.doing(('task',)), sheet.bases), (True, (), (8,)))

    def test_a_base_that_stays(self):
        sheet = Sheet(one(('hours', 2), (1, 0, 0), uses=((3, 0),)), today=1)
        self.same((sheet.doing(('task',)), sheet.bases, 'task' in sheet), (('task',), (0,), True))

    def wrong(self, sheet, at, names):
        before = state_of(sheet)
        self.raises(NotUsable, {'word': 'names', 'at': at}, sheet.doing, names)
        self.same(state_of(sheet), before)

    def test_wrong(self):
        sheet = Sheet(SITE, today=5)
        for odd in ODD:
            if not isinstance(odd, tuple):
                self.wrong(sheet, -1, odd)
            self.wrong(sheet, 0, (odd,))
            self.wrong(sheet, 0, (odd, 'oil'))
            self.wrong(sheet, 1, ('clean', odd))
            self.wrong(sheet, 1, ('clean', odd, None))
        for odd in (['oil'], 'oil', {'oil': 1}, sheet):
            self.wrong(sheet, -1, odd)
        for odd in ('pump', 'oils', ('oil',), ['oil'], sheet):
            self.wrong(sheet, 0, (odd,))
            self.wrong(sheet, 1, ('clean', odd))
        self.wrong(sheet, 1, ('oil', 'clean'))
        self.wrong(sheet, 1, ('oil', 'oil'))
        self.wrong(sheet, 2, ('clean', 'oil', 'oil'))
        # What is ascending can be no task, and what is a task can be one that cannot be done.
        self.wrong(sheet, 0, ('a', 'clean'))
        self.wrong(Sheet(SITE, today=3), 0, ('oil',))
        self.wrong(Sheet(SITE, today=7), 1, ('clean', 'oil'))
        self.wrong(Sheet(EMPTY), 0, ('oil',))

    def test_each_choice_of_what_can_be_done(self):
        for site, sheet in some_sheets():
            today, before = sheet.today, sheet.bases
            able = done_on(site, before, today)
            all_done = bases_after(site, before, (today,))
            for many in range(len(able) + 1):
                for names in combinations(able, many):
                    fresh = copy(sheet)
                    told = fresh.doing(names)
                    want = tuple(new if name in names else old for name, old, new in zip(sheet, before, all_done))
                    self.same((fresh.bases, told), (want, done_on(site, want, today)))
            for name in sheet:
                if name not in able:
                    self.wrong(sheet, 0, (name,))


class TestConsequences(Case):
    def test_all_that_can_be_done_on_the_days_of_visits(self):
        random = Random(33)
        for site in SITES:
            for _ in range(4):
                visits = tuple(sorted(random.sample(range(20), random.randint(0, 6))))
                sheet = Sheet(site)
                for day in visits:
                    sheet.today = day
                    sheet.doing(tuple(name for name in sheet if name in sheet))
                self.same(sheet.bases, bases_after(site, first_bases(site), visits))

    def test_overdue_stays_and_a_kept_one_can_never_be_done(self):
        for site, sheet in some_sheets():
            kept = {task[0] for task in site[2] if task[2] == 'kept'}
            before = ()
            for _ in range(8):
                self.assertTrue(set(before) <= set(sheet.overdue))
                self.assertFalse([name for name in sheet.overdue if name in kept and name in sheet])
                before = sheet.overdue
                sheet += 2

    def test_the_first_late_day_is_that_of_the_least_due(self):
        for site, sheet in some_sheets():
            if len(sheet):
                self.same(first_late(site, sheet.bases), sheet.dues[0].late_on)
                self.assertTrue(Due.nearest(site, sheet.bases) == sheet.dues[0])
            else:
                self.same(first_late(site, sheet.bases), None)


class TestExamples(Case):
    def test_sheet(self):
        self.examples("""
    >>> from whichfirst.sheets import Sheet
    >>> sheet = Sheet(SITE, today=5)
    >>> [sheet.doing(('oil',)), 'oil' in sheet, sheet.bases, [due.name for due in sheet.dues], sheet.overdue]
    [('clean',), False, (0, 5), ['clean', 'oil'], ()]
        """)
