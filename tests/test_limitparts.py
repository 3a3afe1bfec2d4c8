"""Limits and what is in them ([14], [15], by [4])."""

from itertools import product

import plain
from helpers import ODD, Case
from whichfirst import limitparts
from whichfirst.errors import NotUsable

OIL = ('first', (('hours', 40), ('days', 7)))
DEEP = ('first', (('hours', 9), ('later', (('days', 2), ('first', (('cycles', 5),)), ('hours', 9))), ('later', (('days', 1),))))
NO_PATH = (
    None, True, 0, '', [], [0], (True,), (False,), (-1,), (3,), ('0',), (None,), ((0,),), (0, 0), (1, 3), (1, True), (1, -1),
    (1, 1, 0, 0), (1, 1, 1), (1, [0]), (10 ** 59,), (1, 0, 0),
)
NO_LIMIT = tuple(value for value in ODD) + (('hours', 0), ('later', ()), ('first', (('days', True),)), ['days', 1])


def small_limits():
    return plain.limits_to(2, 1, 2) + [DEEP, ('later', (OIL, DEEP)), ('first', (('later', (OIL, ('cycles', 1))), ('days', 3)))]


def bottomless(word):
    limit = ('days', 4)
    for _ in range(2000):
        limit = (word, (limit, ('hours', 5)))
    return limit


class TestPassed(Case):
    def test_ordinary(self):
        self.same(limitparts.is_passed(OIL, (40, 99, 7)), False)
        self.same(limitparts.is_passed(OIL, (41, 0, 0)), True)
        self.same(limitparts.is_passed(OIL, (0, 0, 8)), True)
        self.same(limitparts.is_passed(('later', OIL[1]), (41, 0, 7)), False)
        self.same(limitparts.is_passed(('later', OIL[1]), (41, 0, 8)), True)
        self.same(limitparts.is_passed(('cycles', 3), (9, 3, 9)), False)
        self.same(limitparts.is_passed(('cycles', 3), (0, 4, 0)), True)

    def test_no_counts_of_nothing_pass(self):
        for limit in small_limits():
            self.same(limitparts.is_passed(limit, (0, 0, 0)), False)

    def test_as_defined(self):
        for limit in small_limits():
            for counts in product(range(4), repeat=3):
                self.same(limitparts.is_passed(limit, counts), plain.passes(limit, counts))

    def test_great_numbers(self):
        great = 10 ** 59
        self.same(limitparts.is_passed(('hours', great), (great, 0, 0)), False)
        self.same(limitparts.is_passed(('hours', great), (great + 1, 0, 0)), True)

    def test_nested_deeper_than_calls_can_be(self):
        self.same(limitparts.is_passed(bottomless('first'), (0, 0, 5)), True)
        self.same(limitparts.is_passed(bottomless('later'), (0, 0, 5)), False)
        self.same(limitparts.is_reached(bottomless('first'), (1, 0, 0), (4, 0, 0)), True)
        self.same(limitparts.names_in(bottomless('first')), ('days', 'hours'))
        wide = limitparts.widened(bottomless('later'), (0, 0, 1))
        self.same(limitparts.part_at(wide, (0,) * 2000), ('days', 5))
        self.same(len(limitparts.parts_of(wide)), 4001)
        self.same(limitparts.part_at(limitparts.with_part(wide, (0,) * 1999, ('days', 1)), (0,) * 1999), ('days', 1))


class TestReached(Case):
    def test_ordinary(self):
        self.same(limitparts.is_reached(OIL, (8, 0, 1), (32, 0, 5)), True)
        self.same(limitparts.is_reached(OIL, (8, 0, 1), (31, 0, 5)), False)
        self.same(limitparts.is_reached(OIL, (8, 0, 1), (0, 0, 6)), True)
        self.same(limitparts.is_reached(OIL, (0, 0, 0), (39, 0, 6)), False)
        self.same(limitparts.is_reached(OIL, (0, 0, 0), (40, 0, 0)), True)

    def test_a_slack_greater_than_the_number(self):
        self.same(limitparts.is_reached(('days', 3), (0, 0, 3), (0, 0, 0)), True)
        self.same(limitparts.is_reached(('days', 3), (0, 0, 50), (0, 0, 0)), True)
        self.same(limitparts.is_reached(('days', 3), (50, 50, 2), (9, 9, 0)), False)
        self.same(limitparts.is_reached(('later', (('days', 3), ('hours', 2))), (1, 0, 9), (0, 0, 0)), False)

    def test_as_defined(self):
        for limit in small_limits():
            for slack in ((0, 0, 0), (1, 0, 0), (0, 3, 1), (2, 1, 9)):
                for counts in product(range(3), repeat=3):
                    self.same(limitparts.is_reached(limit, slack, counts), plain.reaches(limit, slack, counts))


class TestWidened(Case):
    def test_ordinary(self):
        self.same(limitparts.widened(('cycles', 5), (1, 2, 3)), ('cycles', 7))
        self.same(limitparts.widened(OIL, (0, 0, 0)), OIL)
        self.same(
            limitparts.widened(DEEP, (1, 20, 300)),
            ('first', (('hours', 10), ('later', (('days', 302), ('first', (('cycles', 25),)), ('hours', 10))), ('later', (('days', 301),)))),
        )

    def test_as_defined(self):
        for limit in small_limits():
            self.same(limitparts.widened(limit, (4, 5, 6)), plain.moved(limit, (4, 5, 6)))


class TestParts(Case):
    def test_names(self):
        self.same(limitparts.names_in(('hours', 1)), ('hours',))
        self.same(limitparts.names_in(DEEP), ('cycles', 'days', 'hours'))
        self.same(limitparts.names_in(('later', (('days', 2), ('cycles', 2), ('days', 1)))), ('cycles', 'days'))
        for limit in small_limits():
            self.same(limitparts.names_in(limit), tuple(sorted({word for word, _ in plain.plain_in(limit)})))

    def test_parts(self):
        self.same(limitparts.parts_of(('days', 2)), (((), ('days', 2)),))
        self.same(limitparts.parts_of(OIL), (((), OIL), ((0,), ('hours', 40)), ((1,), ('days', 7))))
        self.assertEqual(
            [path for path, _ in limitparts.parts_of(DEEP)],
            [(), (0,), (1,), (1, 0), (1, 1), (1, 1, 0), (1, 2), (2,), (2, 0)],
        )
        for limit in small_limits():
            self.same(limitparts.parts_of(limit), tuple(sorted(plain.paths_in(limit))))

    def test_paths_with_two_digits_ascend_as_numbers(self):
        limit = ('first', tuple(('days', n) for n in range(1, 13)))
        self.same(limitparts.parts_of(limit)[1:], tuple(((k,), ('days', k + 1)) for k in range(12)))

    def test_part_at(self):
        for limit in small_limits():
            for path, part in plain.paths_in(limit):
                self.same(limitparts.part_at(limit, path), part)

    def test_with_part(self):
        self.same(limitparts.with_part(OIL, (), ('days', 1)), ('days', 1))
        self.same(limitparts.with_part(OIL, (1,), DEEP), ('first', (('hours', 40), DEEP)))
        self.same(
            limitparts.with_part(DEEP, (1, 1, 0), ('days', 8)),
            ('first', (('hours', 9), ('later', (('days', 2), ('first', (('days', 8),)), ('hours', 9))), ('later', (('days', 1),)))),
        )
        for limit in small_limits():
            for path, part in plain.paths_in(limit):
                self.same(limitparts.with_part(limit, path, part), limit)
                self.same(limitparts.part_at(limitparts.with_part(limit, path, OIL), path), OIL)

    def test_without_part(self):
        self.same(limitparts.without_part(OIL, (0,)), ('first', (('days', 7),)))
        self.same(limitparts.without_part(OIL, (1,)), ('first', (('hours', 40),)))
        self.same(limitparts.without_part(DEEP, (1, 1))[1][1], ('later', (('days', 2), ('hours', 9))))
        for limit in small_limits():
            parts = dict(plain.paths_in(limit))
            for path in parts:
                if path and len(parts[path[:-1]][1]) > 1:
                    self.same(limitparts.without_part(limit, path), plain.without(limit, path))


class TestWrong(Case):
    def test_path(self):
        for path in NO_PATH:
            self.raises(NotUsable, {'word': 'path', 'at': -1}, limitparts.part_at, DEEP, path)
            self.raises(NotUsable, {'word': 'path', 'at': -1}, limitparts.without_part, DEEP, path)
            for other in (OIL, None, ['days', 1]):
                self.raises(NotUsable, {'word': 'path', 'at': -1}, limitparts.with_part, DEEP, path, other)

    def test_no_path_of_a_plain_limit(self):
        for path in ((0,), (1,), (False,)):
            self.raises(NotUsable, {'word': 'path', 'at': -1}, limitparts.part_at, ('days', 5), path)

    def test_other(self):
        for other in NO_LIMIT:
            for path in ((), (0,), (1, 1, 0)):
                self.raises(NotUsable, {'word': 'other', 'at': -1}, limitparts.with_part, DEEP, path, other)

    def test_without_the_limit_itself(self):
        for limit in (('days', 1), OIL, DEEP, ('first', (('days', 1),))):
            self.raises(NotUsable, {'word': 'path', 'at': -1}, limitparts.without_part, limit, ())

    def test_without_the_only_one(self):
        for path in ((1, 1, 0), (2, 0)):
            self.raises(NotUsable, {'word': 'only', 'at': -1}, limitparts.without_part, DEEP, path)
        self.raises(NotUsable, {'word': 'only', 'at': -1}, limitparts.without_part, ('later', (OIL,)), (0,))

    def test_lists_stay_as_they_are(self):
        path, other = [0], ['first', [('days', 1)]]
        self.raises(NotUsable, {'word': 'path', 'at': -1}, limitparts.with_part, OIL, path, other)
        self.raises(NotUsable, {'word': 'other', 'at': -1}, limitparts.with_part, OIL, (0,), other)
        self.same((path, other), ([0], ['first', [('days', 1)]]))


class TestExamples(Case):
    def test_passed_reached_widened(self):
        self.examples("""
    >>> from whichfirst.limitparts import is_passed, is_reached, names_in, widened
    >>> [is_passed(OIL[3], (41, 0, 5)), is_reached(OIL[3], OIL[4], (32, 0, 4)), names_in(OIL[3])]
    [True, True, ('days', 'hours')]
    >>> widened(OIL[3], OIL[4])
    ('first', (('hours', 48), ('days', 8)))
        """)
