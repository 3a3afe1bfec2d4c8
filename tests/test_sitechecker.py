"""Checkers of limits and sites ([12], [13], by [3] to [5] and [11])."""

from helpers import ODD, Case
from sites import EMPTY, MACHINES, MOVES, OIL, PARTS, SITE
from test_kinds import BAD, GOOD, nested
from whichfirst.errors import InvalidPaper
from whichfirst.sitechecker import lets_limit, lets_site

CLEAN = SITE[2][0]


class TestLimit(Case):
    def wrong(self, word, path, thing):
        self.raises(InvalidPaper, {'word': word, 'at': path}, lets_limit, thing)

    def test_how_many(self):
        self.same(lets_limit(('days', 7)), 1)
        self.same(lets_limit(OIL[3]), 2)
        self.same(lets_limit(('first', (OIL[3], ('later', (('days', 1), ('hours', 1), OIL[3]))))), 6)
        self.same(lets_limit(('first', (('later', (('cycles', 1),)),))), 1)
        self.same(lets_limit(thing=nested(40)), 1)
        self.same(lets_limit(nested(2000)), 1)

    def test_word(self):
        for thing in (
            None, 7, 'days', 'ab', (), ('days',), ('days', 1, 1), ['days', 1], ('weeks', 1), ('weeks', ()), (1, 1), (None, 1),
            (['days'], 1), (('days',), 1), ('', 1), ('Days', 1), (True, True),
        ):
            self.wrong('word', (), thing)
            self.wrong('word', (0,), ('first', (thing,)))
            self.wrong('word', (1, 2), ('first', (('days', 1), ('later', (('days', 1), ('hours', 1), thing, thing)))))

    def test_number(self):
        for n in (0, -1, True, False, None, '7', (), (7,), [7], (('days', 1),)):
            for word in ('hours', 'cycles', 'days'):
                self.wrong('number', (), (word, n))
                self.wrong('number', (0, 0), ('later', (('first', ((word, n),)),)))

    def test_limits(self):
        for rest in ((), [], [('days', 1)], None, 1, 'days', ''):
            for word in ('first', 'later'):
                self.wrong('limits', (), (word, rest))
                self.wrong('limits', (1,), ('later', (('days', 1), (word, rest), ('days', 0))))

    def test_the_first_path_of_several(self):
        # What is in one limit of a tuple comes ahead of the next one.
        self.wrong('number', (0, 1), ('first', (('later', (('days', 1), ('days', 0))), ('weeks', 1))))
        self.wrong('word', (0,), ('first', (('weeks', (('days', 0),)), ('first', ()))))
        self.wrong('limits', (0, 0, 0), ('first', (('first', (('later', (('later', ()),)),)), None)))
        self.wrong('number', (2,), ('first', (('days', 1), ('days', 2), ('days', 0), ('days', -1))))
        self.wrong('word', (10,), ('first', (('days', 1),) * 10 + (None, 1)))
        # Deeper ahead of wider: (0, 0) comes ahead of (1,).
        self.wrong('number', (0, 0), ('first', (('first', (('days', 0),)), ('days', 0))))

    def test_it_agrees_with_the_kind(self):
        for limit in GOOD['is_limit']:
            self.assertGreater(lets_limit(limit), 0)
        for thing in BAD['is_limit'] + ODD:
            self.assertRaises(InvalidPaper, lets_limit, thing)


class TestSite(Case):
    def wrong(self, word, at, thing):
        self.raises(InvalidPaper, {'word': word, 'at': at}, lets_site, thing)

    def test_how_many_tasks(self):
        self.same(lets_site(SITE), 2)
        self.same(lets_site(MOVES), 4)
        self.same(lets_site(EMPTY), 0)
        self.same(lets_site(thing=(MACHINES, (), ())), 0)
        self.same(lets_site(((), (('pump', ((0, None),)),), (CLEAN[:1] + ('pump',) + CLEAN[2:],))), 1)

    def test_shape(self):
        for thing in ODD + (SITE[:2], SITE + ((),), list(SITE), 'abc', (MACHINES, PARTS, None)):
            self.wrong('shape', -1, thing)
        for k in range(3):
            for odd in (list(SITE[k]), None, '', 'ab', 0, {}):
                self.wrong('shape', -1, SITE[:k] + (odd,) + SITE[k + 1:])

    def test_machine(self):
        for row in ODD + (
            ('a',), ('a', ()), ('a', [(0, 0)]), ('A', ((0, 0),)), ('', ((0, 0),)), ('ninechars', ((0, 0),)), ['a', ((0, 0),)],
            ('a', ((0, 0),), 1), ('a', ((0, True),)), ('a', ((0, 0), (0, -1))), ('a', ((0, 0), [0, 0])), (None, ((0, 0),)),
        ):
            self.wrong('machine', 0, ((row,), (), ()))
            self.wrong('machine', 2, (MACHINES + (row,), PARTS, SITE[2]))
        for name in ('lift', 'mill', 'a', 'mil'):
            self.wrong('machine', 2, (MACHINES + ((name, ((0, 0),)),), PARTS, SITE[2]))
        self.same(lets_site((MACHINES + (('milla', ((0, 0),)),), PARTS, SITE[2])), 2)

    def test_part(self):
        for row in ODD + (
            ('a',), ('a', ()), ('a', [(0, None)]), ['a', ((0, None),)], ('A', ((0, None),)), ('a', ((1, None),)),
            ('a', ((0, None), (0, None))), ('a', ((0, 'Lift'),)), ('a', ((False, None),)), ('a', ((0, None),), 1),
            ('a', ((0, 0),)), (7, ((0, None),)), ('a', ((0, None), (2, None), (1, None))),
        ):
            self.wrong('part', 0, (MACHINES, (row,), ()))
            self.wrong('part', 2, (MACHINES, PARTS + (row,), SITE[2]))
        for name in ('saw', 'pump', 'a'):
            self.wrong('part', 2, (MACHINES, PARTS + ((name, ((0, None),)),), SITE[2]))

    def test_place(self):
        for stays, j in ((((0, 'saw'),), 0), (((0, None), (3, 'mil')), 1), (((0, 'lift'), (1, 'mill'), (9, 'milla')), 2)):
            self.wrong('place', (0, j), (MACHINES, (('pump', stays), PARTS[1]), SITE[2]))
            self.wrong('place', (2, j), (MACHINES, PARTS + (('tap', stays),), SITE[2]))
        self.wrong('place', (0, 0), ((), (('pump', ((0, 'lift'),)),), ()))

    def test_task(self):
        for row in ODD + (OIL[:4], OIL + (1,), list(OIL), ('Oil', *OIL[1:]), ('oil', 'Pump', *OIL[2:]), ('', *OIL[1:]), (None,) * 5):
            self.wrong('task', 0, (MACHINES, PARTS, (row,)))
            self.wrong('task', 1, (MACHINES, PARTS, (CLEAN, row)))
        for name in ('clean', 'a', 'cleam'):
            self.wrong('task', 1, (MACHINES, PARTS, (CLEAN, (name, *OIL[1:]))))

    def test_owner_way_limit_slack(self):
        for word, k, values in (
            ('owner', 1, ('lift', 'saws', 'oil', 'a')),
            ('way', 2, ('Kept', '', None, 1, True, ['kept'], ('kept',), 'keptfresh', ())),
            ('limit', 3, BAD['is_limit']),
            ('slack', 4, BAD['is_slack']),
        ):
            for value in values:
                row = OIL[:k] + (value,) + OIL[k + 1:]
                self.wrong(word, 0, (MACHINES, PARTS, (row,)))
                self.wrong(word, 1, (MACHINES, PARTS, (CLEAN, row)))
                # What is behind it in the same task comes later, and so does the next task.
                self.wrong(word, 0, (MACHINES, PARTS, (OIL[:k] + (value,) + (None,) * (4 - k), None)))

    def test_the_first_of_several(self):
        part, place, task = ('pump', ()), ('pump', ((0, 'no'),)), CLEAN[:2] + ('no',) + CLEAN[3:]
        self.wrong('machine', 0, ((None, 1), (part,), (task,)))
        self.wrong('machine', 1, (MACHINES[:1] * 2, (part,), (task,)))
        self.wrong('part', 0, (MACHINES, (part, place), (task,)))
        self.wrong('place', (0, 0), (MACHINES, (place, None), (task,)))
        self.wrong('place', (0, 1), (MACHINES, (('pump', ((0, None), (1, 'no'), (2, 'no'))), place), (task,)))
        self.wrong('part', 1, (MACHINES, (PARTS[0], ('pump', ((0, 'no'),))), (task,)))
        self.wrong('way', 0, (MACHINES, PARTS, (task, None)))
        self.wrong('task', 1, (MACHINES, PARTS, (CLEAN, (CLEAN[0], 'no', 'no', None, None))))
        self.wrong('owner', 0, (MACHINES, (), SITE[2]))

    def test_a_place_that_is_a_machine_behind(self):
        self.same(lets_site((MACHINES, (('pump', ((0, 'mill'), (2, None))), PARTS[1]), SITE[2])), 2)

    def test_lists_stay_as_they_are(self):
        thing = ([['lift', [[8, 2]]]], [], [])
        self.wrong('shape', -1, thing)
        self.wrong('machine', 0, (([['lift']],), (), ()))
        self.same(thing, ([['lift', [[8, 2]]]], [], []))


class TestExamples(Case):
    def test_limits_and_sites(self):
        self.examples("""
    >>> from whichfirst.sitechecker import lets_limit, lets_site
    >>> [lets_limit(OIL[3]), lets_site(SITE)]
    [2, 2]
    >>> lets_limit(('first', (('hours', 40), ('days', 0))))
    raises InvalidPaper(word='number', at=(1,))
        """)
