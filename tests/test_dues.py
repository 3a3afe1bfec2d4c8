"""Tasks with a base as values ([31], by [5] and [24])."""

from itertools import product

import days
import plain
from helpers import ODD, Case
from sites import CLEAN, EMPTY, MOVES, OIL, SITE, one
from test_kinds import nested
from whichfirst.counting import counts_between
from whichfirst.duedays import due_day, early_day, late_day
from whichfirst.dues import Due
from whichfirst.errors import NotUsable

NO_DAY = (-1, True, False, None, '0', (), (0,), [0], -10 ** 59)
NO_NAME = ODD + ('pump', 'lift', 'oils', ['oil'], ('oil',))
NO_BASES = ODD + ((0,), (0, 0, 0), [0, 0], (0, -1), (True, 0), (0, False), (0, None), ('0', 0), 'ab', ((0, 0),))
SITES = [SITE, MOVES] + days.small_sites(60, 31)


def rank(due):
    """None is above all numbers."""
    return (due.late_on is None, due.late_on or 0, due.name, due.base)


def some_dues():
    found = [Due(site, task[0], base) for site in SITES[:14] for task in site[2] for base in (0, 3)]
    return found + [Due(SITE, 'oil', 0), Due(SITE, 'oil', 5), Due(one(('days', 7)), 'task', 4), Due(one(('days', 1)), 'task', 10)]


class TestMaking(Case):
    def test_properties(self):
        for site in SITES:
            for task, base in product(site[2], (0, 4, 11)):
                due = Due(site, task[0], base)
                self.same((due.name, due.base), (task[0], base))
                told = (due.early_on, due.due_on, due.late_on)
                self.same(told, (early_day(site, task[0], base), due_day(site, task[0], base), late_day(site, task[0], base)))
        due = Due(base=5, name='oil', site=SITE)
        self.same((due.name, due.base, due.early_on, due.due_on, due.late_on), ('oil', 5, 9, 10, 11))

    def test_it_never_changes(self):
        due = Due(SITE, 'oil', 5)
        for name in ('name', 'base', 'early_on', 'due_on', 'late_on'):
            self.assertRaises(AttributeError, setattr, due, name, 1)
        self.same((due.name, due.base, due.early_on, due.due_on, due.late_on), ('oil', 5, 9, 10, 11))

    def test_wrong_name_first(self):
        for odd in NO_NAME:
            for base in (0, -1, None):
                self.raises(NotUsable, {'word': 'name', 'at': -1}, Due, SITE, odd, base)
                self.raises(NotUsable, {'word': 'name', 'at': -1}, Due, EMPTY, odd, base)

    def test_wrong_base(self):
        for odd in NO_DAY:
            self.raises(NotUsable, {'word': 'base', 'at': -1}, Due, SITE, 'oil', odd)


class TestLeft(Case):
    def test_ordinary(self):
        due = Due(SITE, 'oil', 5)
        self.same(due(5), (('hours', 40, 40), ('days', 7, 7)))
        self.same(due(day=9), (('hours', 40, 8), ('days', 7, 3)))
        self.same(due(20), (('hours', 40, -80), ('days', 7, -8)))
        self.same(Due(SITE, 'clean', 0)(6), (('days', 6, 0),))

    def test_as_they_stand_in_the_limit(self):
        limit = ('later', (('days', 3), ('first', (('hours', 9), ('later', (('cycles', 2), ('days', 3))))), ('hours', 9)))
        due = Due(one(limit, uses=((2, 1),)), 'task', 1)
        self.same(due(3), (('days', 3, 1), ('hours', 9, 5), ('cycles', 2, 0), ('days', 3, 1), ('hours', 9, 5)))

    def test_days_counted_one_by_one(self):
        for site in SITES:
            for task, base, more in product(site[2], (0, 2, 7), (0, 1, 5, 12)):
                counts = days.counts(site, task[1], base, base + more)
                want = tuple((word, n, n - counts[plain.NAMES[word]]) for word, n in plain.plain_in(task[3]))
                self.same(Due(site, task[0], base)(base + more), want)

    def test_far_days_and_deep_limits(self):
        due = Due(SITE, 'oil', 5)
        self.same(due(10 ** 59)[1], ('days', 7, 12 - 10 ** 59))
        self.same(due(10 ** 59)[0][2], 40 - counts_between(SITE, 'pump', 5, 10 ** 59)[0])
        self.same(Due(one(nested(2000)), 'task', 0)(1), (('days', 1, 0),))

    def test_wrong_day(self):
        for odd in NO_DAY + (0, 4):
            self.raises(NotUsable, {'word': 'day', 'at': -1}, Due(SITE, 'oil', 5), odd)

    def test_word_for(self):
        told = [Due.word_for(left) for left in (-10 ** 59, -1, 0, 1, 10 ** 59)]
        self.same(told, ['over', 'over', 'full', 'open', 'open'])
        self.same(Due.word_for(left=0), 'full')
        self.assertIsInstance(vars(Due)['word_for'], staticmethod)
        self.same(Due(SITE, 'oil', 5).word_for(3), 'open')
        for odd in (True, False, None, '0', (), (0,), [0]):
            self.raises(NotUsable, {'word': 'left', 'at': -1}, Due.word_for, odd)


class TestCompared(Case):
    def test_by_late_day_then_name_then_base(self):
        dues = some_dues()
        for one_due, other in product(dues, dues):
            before, behind = rank(one_due), rank(other)
            self.same(one_due < other, before < behind)
            self.same(one_due <= other, before <= behind)
            self.same(one_due == other, before == behind)
            self.same(one_due != other, before != behind)
            self.same(one_due > other, before > behind)
            self.same(one_due >= other, before >= behind)

    def test_none_is_above_all_numbers(self):
        never, late = Due(MOVES, 'check', 0), Due(SITE, 'oil', 10 ** 59)
        self.same((never.late_on, never < late, late < never, never <= never, never == never), (None, False, True, True, True))
        self.same(Due(MOVES, 'check', 3) < Due(MOVES, 'check', 0), False)
        self.same(Due(MOVES, 'check', 0) < Due(MOVES, 'check', 3), True)

    def test_whatever_their_sites(self):
        site = (SITE[0], SITE[1], (('oil', 'saw', 'fresh', ('days', 6), (0, 0, 0)),))
        self.same((Due(site, 'oil', 5).late_on, Due(SITE, 'oil', 5).late_on), (11, 11))
        self.same(Due(site, 'oil', 5) == Due(SITE, 'oil', 5), True)
        # The base comes last: the same late day and name with different bases.
        same = one(('hours', 4), uses=((0, 0), (0, 0), (0, 0), (9, 0)))
        told = [Due(same, 'task', base) for base in (2, 0, 1)]
        self.same([due.late_on for due in told], [3, 3, 3])
        self.same([due.base for due in sorted(told)], [0, 1, 2])
        self.same(told[0] == told[1], False)

    def test_sorted(self):
        dues = some_dues()
        self.assertEqual([rank(due) for due in sorted(dues)], sorted(rank(due) for due in dues))

    def test_equal_to_no_other_value(self):
        due = Due(SITE, 'oil', 5)
        for other in ODD + (11, (False, 11, 'oil', 5), 'oil', object(), Due):
            self.same((due == other, other == due, due != other), (False, False, True))


    def test_in_no_order_with_other_values(self):
        due = Due(SITE, 'oil', 5)
        for other in (11, None, 'oil', (False, 11, 'oil', 5)):
            self.assertRaises(TypeError, lambda: due < other)
            self.assertRaises(TypeError, lambda: due <= other)


class TestNearest(Case):
    def test_ordinary(self):
        self.same(Due.nearest(SITE, (6, 5)).name, 'oil')
        self.same(Due.nearest(SITE, (0, 0)).name, 'clean')
        nearest = Due.nearest(bases=(9, 20), site=SITE)
        self.same((nearest.name, nearest.base, nearest.late_on), ('clean', 9, 15))
        self.assertIs(type(nearest), Due)

    def test_without_a_task(self):
        self.same(Due.nearest(EMPTY, ()), None)
        self.same(Due.nearest(SITE[:2] + ((),), ()), None)

    def test_the_least_one(self):
        for site in SITES:
            for first in (0, 3, 8):
                bases = tuple(first + 2 * k for k in range(len(site[2])))[::-1]
                want = min(rank(Due(site, task[0], base)) for task, base in zip(site[2], bases))
                self.same(rank(Due.nearest(site, bases)), want)

    def test_no_late_day_comes_last(self):
        site = MOVES[:2] + ((MOVES[2][0], MOVES[2][3]),)
        self.same(Due.nearest(site, (0, 50)).name, 'turn')
        self.same(Due.nearest(MOVES[:2] + (MOVES[2][:1],), (4,)).late_on, None)

    def test_wrong_bases(self):
        self.assertIsInstance(vars(Due)['nearest'], classmethod)
        for odd in NO_BASES:
            self.raises(NotUsable, {'word': 'bases', 'at': -1}, Due.nearest, SITE, odd)
        self.raises(NotUsable, {'word': 'bases', 'at': -1}, Due.nearest, EMPTY, (0,))
        self.raises(NotUsable, {'word': 'bases', 'at': -1}, Due.nearest, EMPTY, [])


class TestExamples(Case):
    def test_dues(self):
        self.same(SITE[2], (CLEAN, OIL))
        self.examples("""
    >>> from whichfirst.dues import Due
    >>> oil, clean = Due(SITE, 'oil', 5), Due(SITE, 'clean', 6)
    >>> [oil.early_on, oil.late_on, oil(8), oil < clean, min([clean, oil]).name, Due.nearest(SITE, (6, 5)) == oil]
    [9, 11, (('hours', 40, 16), ('days', 7, 4)), True, 'oil', True]
    >>> [[row[2] for row in oil(11)], Due.word_for(oil(10)[0][2])]
    [[-8, 1], 'full']
        """)
