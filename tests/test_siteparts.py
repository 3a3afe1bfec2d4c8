"""What stands in a site ([16])."""

from itertools import product

import days
from helpers import ODD, Case
from sites import EMPTY, MOVES, SITE
from whichfirst import siteparts
from whichfirst.errors import NotUsable

NO_DAY = (-1, True, False, None, '0', (), (0,), [0], -10 ** 59, 'saw')
NO_NAME = tuple(value for value in ODD if value is not None) + ('oils', 'o', 'nobody', ['oil'], ('oil',), ['pump'], ['lift'], 0, b'oil')
SITES = [SITE, MOVES] + days.small_sites(20, 16)


class TestPlaces(Case):
    def test_place_of(self):
        self.same([siteparts.place_of(SITE, 'saw', day) for day in (0, 3, 4, 5, 10 ** 59)], ['mill'] * 2 + ['lift'] * 3)
        told = [siteparts.place_of(MOVES, 'belt', day) for day in range(9)]
        self.same(told, ['lift'] * 3 + [None] * 4 + ['mill'] * 2)
        self.same([siteparts.place_of(MOVES, 'axle', day) for day in (0, 99)], [None, None])
        self.same(siteparts.place_of(part='disc', day=1, site=MOVES), 'crane')

    def test_use_of(self):
        self.same([siteparts.use_of(SITE, 'mill', day) for day in (0, 1, 2, 10 ** 59)], [(2, 5), (6, 0), (6, 0), (6, 0)])
        self.same([siteparts.use_of(MOVES, 'crane', day) for day in range(5)], [(1, 1), (0, 3), (5, 0), (5, 0), (5, 0)])
        self.same(siteparts.use_of(site=SITE, machine='lift', day=0), (8, 2))

    def test_parts_at(self):
        self.same(siteparts.parts_at(SITE, 'lift', 3), ('pump',))
        self.same(siteparts.parts_at(SITE, 'mill', 4), ())
        self.same([siteparts.parts_at(MOVES, None, day) for day in (0, 3, 5, 7)], [('axle', 'chain'), ('axle', 'belt', 'chain'), ('axle', 'belt'), ('axle',)])
        self.same(siteparts.parts_at(site=MOVES, place='lift', day=2), ('belt', 'disc'))
        self.same(siteparts.parts_at(EMPTY, None, 0), ())

    def test_as_defined(self):
        for site in SITES:
            for day in range(15):
                for part, stays in site[1]:
                    self.same(siteparts.place_of(site, part, day), days.place(stays, day))
                for machine, uses in site[0]:
                    self.same(siteparts.use_of(site, machine, day), (uses + uses[-1:] * 15)[day])
                for place in [None] + [machine for machine, _ in site[0]]:
                    want = tuple(sorted(part for part, stays in site[1] if days.place(stays, day) == place))
                    self.same(siteparts.parts_at(site, place, day), want)


class TestTasks(Case):
    def test_tasks_of(self):
        self.same(siteparts.tasks_of(SITE, 'pump'), ('oil',))
        self.same(siteparts.tasks_of(MOVES, 'belt'), ('grease', 'rinse'))
        self.same(siteparts.tasks_of(MOVES, 'axle'), ('check', 'turn'))
        self.same(siteparts.tasks_of(MOVES, 'disc'), ())
        self.same(siteparts.tasks_of(site=SITE, part='saw'), ('clean',))

    def test_part_of_and_number_of(self):
        for site in SITES:
            for k, task in enumerate(site[2]):
                self.same(siteparts.part_of(site, task[0]), task[1])
                self.same(siteparts.number_of(site, task[0]), k)
                self.assertIn(task[0], siteparts.tasks_of(site, task[1]))
        self.same(siteparts.part_of(site=SITE, name='oil'), 'pump')
        self.same(siteparts.number_of(site=SITE, name='oil'), 1)


class TestWrong(Case):
    def wrong(self, word, call, *args):
        self.raises(NotUsable, {'word': word, 'at': -1}, call, *args)

    def test_part(self):
        for odd in NO_NAME + (None, 'lift', 'oil'):
            self.wrong('part', siteparts.tasks_of, SITE, odd)
            for day in (0, -1, None):
                self.wrong('part', siteparts.place_of, SITE, odd, day)

    def test_machine(self):
        for odd, day in product(NO_NAME + (None, 'pump', 'oil'), (0, True, [])):
            self.wrong('machine', siteparts.use_of, SITE, odd, day)

    def test_place(self):
        for odd, day in product(NO_NAME + ('pump', 'oil'), (0, True, [])):
            self.wrong('place', siteparts.parts_at, SITE, odd, day)
            self.wrong('place', siteparts.parts_at, EMPTY, odd, day)

    def test_day(self):
        for odd in NO_DAY:
            self.wrong('day', siteparts.place_of, SITE, 'saw', odd)
            self.wrong('day', siteparts.use_of, SITE, 'mill', odd)
            self.wrong('day', siteparts.parts_at, SITE, 'mill', odd)
            self.wrong('day', siteparts.parts_at, SITE, None, odd)

    def test_task(self):
        for odd in NO_NAME + (None, 'pump', 'lift'):
            self.wrong('task', siteparts.part_of, SITE, odd)
            self.wrong('task', siteparts.number_of, SITE, odd)
            self.wrong('task', siteparts.number_of, EMPTY, odd)


class TestExamples(Case):
    def test_places_and_numbers(self):
        self.examples("""
    >>> from whichfirst.siteparts import number_of, parts_at, place_of, use_of
    >>> [place_of(SITE, 'saw', 3), use_of(SITE, 'mill', 9), parts_at(SITE, 'lift', 4), number_of(SITE, 'oil')]
    ['mill', (6, 0), ('pump', 'saw'), 1]
        """)
