"""What one limit says of another in all runs ([47] to [49], the consequences [50], (W4) of [9])."""

from itertools import product

import plain
from helpers import Case
from look import CAPS, LIMITS, LOOK, NO_CAPS, NO_LIMIT, triples
from whichfirst import allruns
from whichfirst.errors import NotUsable
from whichfirst.limitparts import widened

WEEK = ('days', 7)
BOTH = ('first', (('hours', 40), WEEK))


def can_come(counts, caps):
    hours, cycles, days = counts
    if caps is None:
        return days > 0 or hours == cycles == 0
    return hours <= caps[0] * days and cycles <= caps[1] * days


def leaner(limit):
    """All that comes of a limit by leaving out parts."""
    found, new = {limit}, [limit]
    while new:
        one = new.pop()
        parts = dict(plain.paths_in(one))
        for path in parts:
            if path and len(parts[path[:-1]][1]) > 1:
                other = plain.without(one, path)
                if other not in found:
                    found.add(other)
                    new.append(other)
    return found


class TestTwoLimits(Case):
    def test_ordinary(self):
        self.same(allruns.never_later(BOTH, WEEK, (8, 2)), True)
        self.same(allruns.never_later(WEEK, BOTH, (8, 2)), False)
        self.same(allruns.never_later(WEEK, BOTH, (5, 2)), True)
        self.same(allruns.are_alike(WEEK, BOTH, (5, 2)), True)
        self.same(allruns.are_alike(BOTH, WEEK, (6, 2)), False)
        self.same(allruns.parting_counts(BOTH, WEEK, (8, 2)), None)

    def test_the_last_hour_of_the_last_day(self):
        # 41 hours within seven days need a cap of six; with five the fortieth hour ends the eighth day.
        for cap, want in ((5, True), (6, False)):
            self.same(allruns.never_later(WEEK, ('hours', 40), (cap, 0)), want)
        self.same(allruns.never_later(('hours', 34), ('days', 7), (5, 0)), False)
        self.same(allruns.parting_counts(WEEK, ('hours', 41), (6, 0)), (42, 0, 7))
        self.same(allruns.parting_counts(WEEK, ('hours', 42), (6, 0)), None)

    def test_plain_look(self):
        for caps in CAPS:
            for limit, other in product(LIMITS, LIMITS[::3]):
                want = LOOK.never_later(limit, other, caps)
                self.assertIs(allruns.never_later(limit, other, caps), want, (limit, other, caps))

    def test_plain_look_at_alike_limits(self):
        for caps in CAPS:
            for limit, other in product(LIMITS[::2], LIMITS[::5]):
                want = LOOK.alike(limit, other, caps)
                self.assertIs(allruns.are_alike(limit, other, caps), want, (limit, other, caps))

    def test_parting_counts_come_and_part(self):
        for caps in CAPS:
            for limit, other in product(LIMITS[::4], LIMITS):
                counts = allruns.parting_counts(limit, other, caps)
                self.assertEqual(counts is None, LOOK.never_later(limit, other, caps))
                if counts is not None:
                    self.assertIs(type(counts), tuple)
                    self.assertEqual([type(count) for count in counts], [int] * 3)
                    self.assertTrue(min(counts) >= 0 and can_come(counts, caps))
                    self.assertTrue(plain.passes(other, counts) and not plain.passes(limit, counts))

    def test_caps_none(self):
        self.same(allruns.never_later(('days', 1), ('hours', 10 ** 59), None), False)
        self.same(allruns.never_later(('days', 1), ('hours', 1), (0, 9)), True)
        self.same(allruns.never_later(('days', 1), ('later', (('hours', 1), ('cycles', 1))), (9, 0)), True)

    def test_caps_of_nothing(self):
        # With caps (0, 0) a limit of hours or of cycles is never passed.
        for word, other in product(('hours', 'cycles'), LIMITS):
            self.same(allruns.never_later(other, (word, 1), (0, 0)), True)
        self.same(allruns.are_alike(('hours', 1), ('cycles', 9), (0, 0)), True)
        self.same(allruns.never_later(('hours', 1), ('days', 9), (0, 0)), False)
        self.same(allruns.parting_counts(('hours', 1), ('days', 9), (0, 0))[:2], (0, 0))

    def test_great_numbers(self):
        great = 10 ** 59
        limit = ('days', great)
        self.same(allruns.never_later(limit, ('hours', 3 * great), (3, 0)), True)
        self.same(allruns.never_later(limit, ('hours', 3 * great - 1), (3, 0)), False)
        self.same(allruns.parting_counts(limit, ('hours', 3 * great - 1), (3, 0)), (3 * great, 0, great))
        self.same(allruns.never_later(('days', 1), ('hours', great), (great, 0)), True)
        self.same(allruns.never_later(('days', 1), ('hours', great), (great + 1, 0)), False)

    def test_six_names_with_numbers_to_ninety_nine(self):
        limit = ('first', (('later', (('hours', 90), ('days', 12))), ('cycles', 99), ('later', (('first', (('hours', 70), ('cycles', 50))), ('days', 20)))))
        other = ('later', (('first', (('hours', 99), ('cycles', 98))), ('days', 11), ('first', (('days', 30), ('cycles', 61), ('hours', 80)))))
        for caps in (None, (8, 2), (7, 9), (20, 20)):
            for one, two in ((limit, other), (other, limit)):
                found = any(
                    can_come(counts, caps) and plain.passes(two, counts) and not plain.passes(one, counts)
                    for counts in product((0, 71, 81, 91, 100), (0, 51, 62, 99, 100), range(40))
                )
                self.same(allruns.never_later(one, two, caps), not found)


class TestIdleParts(Case):
    def test_ordinary(self):
        self.same(allruns.idle_parts(('days', 7), None), ())
        self.same(allruns.idle_parts(('first', (('days', 7),)), (0, 0)), ())
        self.same(allruns.idle_parts(('first', (('hours', 7),)), (0, 0)), ())
        self.same(allruns.idle_parts(('first', (('hours', 7), ('cycles', 7))), (0, 0)), ((0,), (1,)))
        self.same(allruns.idle_parts(('later', (('days', 7), ('days', 9))), None), ((0,),))
        self.same(allruns.idle_parts(('first', (('days', 7), ('days', 9))), None), ((1,),))

    def test_plain_look(self):
        for caps in CAPS:
            for limit in LIMITS + triples()[::3]:
                self.same(allruns.idle_parts(limit, caps), LOOK.idle(limit, caps))

    def test_paths_ascend_as_numbers(self):
        limit = ('first', (('days', 1),) * 12)
        self.same(allruns.idle_parts(limit, None), tuple((k,) for k in range(12)))


class TestLeanLimit(Case):
    def test_ordinary(self):
        self.same(allruns.lean_limit(BOTH, (5, 2)), ('first', (WEEK,)))
        self.same(allruns.lean_limit(BOTH, (8, 2)), BOTH)
        self.same(allruns.lean_limit(WEEK, None), WEEK)
        same = ('first', (('hours', 9), ('hours', 9), ('later', (('hours', 9), ('days', 2)))))
        self.same(allruns.lean_limit(same, None), ('first', (('hours', 9),)))

    def test_alike_leaner_and_nothing_idle(self):
        for caps in CAPS:
            for limit in LIMITS[::2] + triples()[::4]:
                lean = allruns.lean_limit(limit, caps)
                self.assertTrue(LOOK.alike(limit, lean, caps))
                self.assertEqual(LOOK.idle(lean, caps), ())
                self.assertIn(lean, leaner(limit))

    def test_not_all_idle_parts_at_once(self):
        # Of two that are equal each is idle, but not both.
        self.same(allruns.lean_limit(('later', (WEEK, WEEK, WEEK)), (3, 3)), ('later', (WEEK,)))


class TestConsequences(Case):
    def test_lesser_caps(self):
        rising = ((0, 0), (1, 0), (1, 1), (2, 1), (9, 9), None)
        for limit, other in product(LIMITS[::2], LIMITS[::7]):
            told = [allruns.never_later(limit, other, caps) for caps in rising]
            self.assertEqual(told, sorted(told, reverse=True))

    def test_first_and_later_and_their_parts(self):
        for caps in CAPS:
            for limit in LIMITS + triples()[::5]:
                for part in limit[1] if limit[0] in ('first', 'later') else ():
                    pair = (limit, part) if limit[0] == 'first' else (part, limit)
                    self.same(allruns.never_later(*pair, caps), True)

    def test_widened(self):
        for caps in CAPS:
            for limit in LIMITS:
                for slack in ((0, 0, 0), (1, 0, 0), (0, 2, 0), (3, 1, 2)):
                    self.same(allruns.never_later(limit, widened(limit, slack), caps), True)

    def test_plain_limits_of_one_name(self):
        room = {'hours': 0, 'cycles': 1}
        for caps in CAPS:
            for word, n, k in product(('hours', 'cycles', 'days'), range(1, 4), range(1, 4)):
                can = word == 'days' or caps is None or caps[room[word]] > 0
                self.same(allruns.are_alike((word, n), (word, k), caps), n == k or not can)
                self.same(allruns.never_later((word, n), (word, k), caps), n <= k or not can)

    def test_parts_that_are_idle_by_the_others(self):
        for caps in CAPS:
            for limit in triples()[::2]:
                word, parts = limit
                idle = allruns.idle_parts(limit, caps)
                for k, part in enumerate(parts):
                    others = (word, parts[:k] + parts[k + 1:])
                    pair = (others, part) if word == 'first' else (part, others)
                    if allruns.never_later(*pair, caps):
                        self.assertIn((k,), idle)

    def test_each_limit_and_itself(self):
        for caps in CAPS:
            for limit in LIMITS:
                self.same(allruns.are_alike(limit, limit, caps), True)
                self.same(allruns.parting_counts(limit, limit, caps), None)


class TestWrong(Case):
    def test_two_limits(self):
        for call in (allruns.never_later, allruns.are_alike, allruns.parting_counts):
            for odd in NO_LIMIT:
                self.raises(NotUsable, {'word': 'limit', 'at': -1}, call, odd, WEEK, None)
                self.raises(NotUsable, {'word': 'limit', 'at': -1}, call, odd, odd, (True, 0))
                self.raises(NotUsable, {'word': 'other', 'at': -1}, call, WEEK, odd, None)
                self.raises(NotUsable, {'word': 'other', 'at': -1}, call, WEEK, odd, [1, 1])
            for odd in NO_CAPS:
                self.raises(NotUsable, {'word': 'caps', 'at': -1}, call, WEEK, BOTH, odd)

    def test_one_limit(self):
        for call in (allruns.idle_parts, allruns.lean_limit):
            for odd in NO_LIMIT:
                self.raises(NotUsable, {'word': 'limit', 'at': -1}, call, odd, None)
                self.raises(NotUsable, {'word': 'limit', 'at': -1}, call, odd, [0, 0])
            for odd in NO_CAPS:
                self.raises(NotUsable, {'word': 'caps', 'at': -1}, call, WEEK, odd)

    def test_lists_stay_as_they_are(self):
        limit, caps = ['first', [('days', 1)]], [8, 2]
        self.raises(NotUsable, {'word': 'limit', 'at': -1}, allruns.never_later, limit, limit, caps)
        self.raises(NotUsable, {'word': 'caps', 'at': -1}, allruns.lean_limit, BOTH, caps)
        self.same((limit, caps), (['first', [('days', 1)]], [8, 2]))


class TestExamples(Case):
    BOTH = """
    >>> from whichfirst.allruns import are_alike, never_later, parting_counts
    >>> from whichfirst.limitparts import is_passed
    >>> BOTH = ('first', (('hours', 40), ('days', 7)))
    >>> [never_later(BOTH, ('days', 7), (8, 2)), never_later(('days', 7), BOTH, (8, 2)), are_alike(BOTH, ('days', 7), (5, 2))]
    [True, False, True]
    >>> [parting_counts(BOTH, ('days', 7), None), is_passed(BOTH, parting_counts(('days', 7), BOTH, (8, 2)))]
    [None, True]
    """

    def test_two_limits(self):
        self.examples(self.BOTH)

    def test_idle_parts(self):
        self.examples(self.BOTH + """
    >>> from whichfirst.allruns import idle_parts, lean_limit
    >>> [idle_parts(BOTH, (8, 2)), idle_parts(BOTH, (5, 2)), lean_limit(BOTH, (5, 2))]
    [(), ((0,),), ('first', (('days', 7),))]
    >>> idle_parts(('first', (('hours', 9), ('hours', 9), ('later', (('hours', 9), ('days', 2))))), None)
    ((0,), (1,), (2,), (2, 1))
        """)
