"""The kinds of values ([11], by [2] to [5])."""

from helpers import ODD, Case
from whichfirst import kinds
from whichfirst.errors import InvalidPaper
from whichfirst.limitclasses import Limit

OIL = ('oil', 'pump', 'kept', ('first', (('hours', 40), ('days', 7))), (8, 0, 1))


def nested(many):
    """A limit of days within so many others."""
    limit = ('days', 1)
    for k in range(many):
        limit = (('first', 'later')[k % 2], (limit,))
    return limit


def listed(limit):
    """The same with a list for its outermost tuple."""
    return list(limit)


GOOD = {
    'is_integer': (0, 1, -1, 10 ** 59, -10 ** 59),
    'is_number': (0, 1, 7, 10 ** 60 - 1),
    'is_name': ('a', 'z', 'oil', 'abcdefgh', 'first', 'hours'),
    'is_counts': ((0, 0, 0), (1, 2, 3), (10 ** 59, 0, 1)),
    'is_use': ((0, 0), (8, 2), (0, 10 ** 59)),
    'is_slack': ((0, 0, 0), (8, 0, 1)),
    'is_limit': (
        ('hours', 1), ('cycles', 99), ('days', 10 ** 59), ('first', (('days', 1),)), ('later', (('hours', 2),) * 9),
        ('first', (('later', (('first', (('days', 3), ('cycles', 1))),)), ('hours', 9))), nested(14), nested(3000),
    ),
    'is_machines': (
        (), (('a', ((0, 0),)),), (('lift', ((8, 2),)), ('mill', ((2, 5), (6, 0)))), (('a', ((1, 1),)), ('aa', ((0, 0),))),
    ),
    'is_stays': (
        ((0, None),), ((0, 'lift'),), ((0, 'mill'), (4, 'lift')), ((0, 'a'), (1, 'a'), (10 ** 59, None)),
        ((0, None), (1, 'nowhere')),
    ),
    'is_task': (
        OIL, ('a', 'a', 'fresh', ('days', 1), (0, 0, 0)), ('abcdefgh', 'x', 'kept', nested(4), (0, 10 ** 59, 0)),
    ),
}

BAD = {
    'is_integer': (True, False, None, '1', '', (), (1,), [], [1]),
    'is_number': (-1, True, False, None, '0', (0,), [0]),
    'is_name': (
        '', 'ninechars', 'A', 'Oil', 'a1', '1', 'a b', ' a', 'a ', 'oil\n', '\n', 'a-b', '~', '`', '{', 'a_b',
        0, 1, True, None, (), ('a',), ['a'],
    ),
    'is_counts': (
        (0, 0), (0, 0, 0, 0), [0, 0, 0], (0, 0, -1), (-1, 0, 0), (0, -1, 0), (True, 0, 0), (0, False, 0), (0, 0, None),
        ('0', 0, 0), ((0, 0, 0),), 'abc', 0, None,
    ),
    'is_use': ((0,), (0, 0, 0), [8, 2], (0, -1), (-1, 0), (True, 0), (0, False), (None, 0), ('8', 2), 'ab', 8, None, ((8, 2),)),
    'is_slack': ((0, 0), [0, 0, 0], (0, 0, -1), (True, 0, 0), (0, 0, False), None, 0, (0, 0, 0, 0)),
    'is_limit': (
        ('hours', 0), ('hours', -1), ('days', True), ('days', False), ('days', None), ('days', '1'), ('days', (1,)),
        ('days',), ('days', 1, 1), ['days', 1], ('weeks', 1), ('Days', 1), (1, 'days'), (None, 1), (('days',), 1),
        (['days'], 1), ('first', ()), ('later', ()), ('first', [('days', 1)]), ('first', [['days', 1]]), ('first', ('days', 1)),
        ('later', ('days',)), ('first', None), ('first', 1), ('later', 'days'), ('first', (['days', 1],)),
        ('first', (('days', 1), ('later', ()))), ('later', (('days', 1), ('first', (('hours', True),)))),
        ('first', (('days', 0), ('days', 1))), ('first', (('days', 1), None)), 'days', 'ab', 7, None, (), [], listed(nested(2)),
        ('first',), ('first', (('days', 1),), ()), ('weeks', (('days', 1),)), (None, (('days', 1),)), ('', (('days', 1),)),
        ('First', (('days', 1),)), (['first'], (('days', 1),)), ('hours', (('days', 1),)), ('first', (('both', (('days', 1),)),)),
    ),
    'is_machines': (
        [], None, 'a', 0, (('a', ()),), (('a', [(0, 0)]),), (['a', ((0, 0),)],), [('a', ((0, 0),))], (('A', ((0, 0),)),),
        (('', ((0, 0),)),), (('ninechars', ((0, 0),)),), (('a', ((0, 0),)), ('a', ((1, 0),))), (('b', ((0, 0),)), ('a', ((0, 0),))),
        (('aa', ((0, 0),)), ('a', ((0, 0),))), (('a', ((0, True),)),), (('a', ((0, 0), [0, 0])),), (('a', ((0, -1),)),),
        (('a', ((0, 0),), 1),), (('a',),), ('a', ((0, 0),)), (('a', (0, 0)),), (('a', ((0, 0, 0),)),), (None,), (('a', None),),
        ((None, ((0, 0),)),), (('a', ((0, 0),)), None),
    ),
    'is_stays': (
        (), [], None, [(0, None)], ([0, None],), ((1, None),), ((0, None), (0, 'a')), ((0, None), (2, 'a'), (2, 'b')),
        ((0, None), (2, 'a'), (1, 'b')), ((False, None),), ((0, None), (True, 'a')), ((0, 'A'),), ((0, ''),), ((0, 0),),
        ((0, False),), ((0,),), ((0, None, None),), (0, None), ((-1, None),), ((-1, None), (0, 'a')), ((None, 'a'),),
        ((0, ('a',)),), ((0, 'ninechars'),), ((0, None), (1, 'a'), None), 'ab',
    ),
    'is_task': (
        OIL[:4], OIL + (1,), list(OIL), ('', *OIL[1:]), ('oil', 'Pump', *OIL[2:]), ('oil', None, *OIL[2:]), (True, *OIL[1:]),
        ('oil', 'pump', 'Kept', *OIL[3:]), ('oil', 'pump', '', *OIL[3:]), ('oil', 'pump', None, *OIL[3:]),
        ('oil', 'pump', ['kept'], *OIL[3:]), ('oil', 'pump', ('kept',), *OIL[3:]), (*OIL[:3], ('days', 0), OIL[4]),
        (*OIL[:3], ['days', 1], OIL[4]), (*OIL[:3], None, OIL[4]), (*OIL[:4], (0, 0)), (*OIL[:4], [0, 0, 0]),
        (*OIL[:4], (0, 0, True)), (*OIL[:4], None), ('oil', 'pump', 'keptfresh', *OIL[3:]), None, (), 'abcde',
        (0, 0, 0, 0, 0), (None,) * 5,
    ),
}


class TestKinds(Case):
    def test_what_is_of_the_kind(self):
        for name, values in GOOD.items():
            for value in values:
                self.assertIs(getattr(kinds, name)(value), True, (name, value if name != 'is_limit' else ''))

    def test_what_is_not(self):
        for name, values in BAD.items():
            for value in values:
                self.assertIs(getattr(kinds, name)(value), False, (name, value))

    def test_any_value_is_answered(self):
        deep, wide = (), [0] * 5000
        for _ in range(30):
            deep = [deep]
        for name in GOOD:
            for value in ODD + (deep, wide, tuple(wide), object(), Limit.days(1), InvalidPaper('a', 1), kinds):
                self.assertIn(getattr(kinds, name)(value), (True, False))

    def test_objects_are_of_no_kind(self):
        for name in GOOD:
            for value in (object(), Limit.days(1), (Limit.days(1),), ('first', (Limit.days(1),)), (Limit.days(1), 1)):
                self.assertIs(getattr(kinds, name)(value), False)

    def test_what_one_kind_says_of_the_values_of_the_others(self):
        alike = {('is_counts', 'is_slack'), ('is_slack', 'is_counts'), ('is_number', 'is_integer')}
        for name in GOOD:
            for other, values in GOOD.items():
                if name == other or (other, name) in alike:
                    continue
                for value in values:
                    want = (name, other) == ('is_number', 'is_integer') and value >= 0
                    want = want or value == () and name in ('is_machines',)
                    self.assertIs(getattr(kinds, name)(value), want, (name, other))

    def test_each_number_and_letter_counts(self):
        for letter in range(32, 127):
            want = 97 <= letter <= 122
            self.assertIs(kinds.is_name(chr(letter)), want)
            self.assertIs(kinds.is_name('abc' + chr(letter)), want)
        for many in range(12):
            self.assertIs(kinds.is_name('a' * many), 1 <= many <= 8)
        for n in range(-5, 6):
            self.assertIs(kinds.is_number(n), n >= 0)
            self.assertIs(kinds.is_limit(('cycles', n)), n >= 1)

    def test_by_name(self):
        for name, values in GOOD.items():
            self.assertIs(getattr(kinds, name)(thing=values[0]), True)
            self.assertIs(getattr(kinds, name)(thing=object()), False)

    def test_arguments_stay_as_they_are(self):
        value = ['first', [['days', 1], ['hours', [2]]]]
        before = repr(value)
        for name in GOOD:
            getattr(kinds, name)(value)
            getattr(kinds, name)(('first', (value, value)))
        self.assertEqual(repr(value), before)
