"""Changed sites ([17], with the words on errors ahead of it; [13] for with_task; [16] for what they tell)."""

from itertools import permutations, product

import days
from helpers import NO_NAME, NO_NUMBER, ODD, Case
from look import NO_LIMIT
from sites import CLEAN, EMPTY, MOVES, OIL, SITE
from test_kinds import nested
from whichfirst import sitechanges as changes
from whichfirst.duedays import days_for, due_day
from whichfirst.errors import InvalidPaper, NotUsable
from whichfirst.sitechecker import lets_site
from whichfirst.siteparts import number_of, part_of, parts_at, place_of, tasks_of, use_of

SITES = [SITE, MOVES] + days.small_sites(40, 17)
DAYS = range(15)
NO_SLACK = tuple(value for value in ODD if value != (0, 0, 0)) + ((0, 0), [0, 0, 0], (0, 0, -1), (True, 0, 0), (0, 0, 0, 0), 'abc')
NO_WAY = ODD + ('Fresh', 'keep', 'fresh ', ('fresh',), ['kept'], 'freshkept')
NO_USES = ODD + (((8, 2), (8,)), [(8, 2)], ([8, 2],), ((8, True),), ((8, -1),), ((8, 2), None), (8, 2), ((8, 2, 0),))


def places_in(site):
    return [None] + [machine for machine, _ in site[0]]


class TestStay(Case):
    def test_ordinary(self):
        self.same(changes.with_stay(SITE, 'saw', 2, None)[1][1], ('saw', ((0, 'mill'), (2, None))))
        self.same(changes.with_stay(SITE, 'saw', 9, 'mill')[1][1], ('saw', ((0, 'mill'), (4, 'lift'), (9, 'mill'))))
        self.same(changes.with_stay(place='mill', day=3, part='pump', site=SITE)[1][0], ('pump', ((0, 'lift'), (3, 'mill'))))
        self.same(changes.with_stay(SITE, 'saw', 10 ** 59, None)[1][1][1][-1], (10 ** 59, None))

    def test_on_day_0(self):
        self.same(changes.with_stay(SITE, 'saw', 0, 'lift')[1][1], ('saw', ((0, 'lift'),)))
        self.same(changes.with_stay(SITE, 'pump', 0, None)[1][0], ('pump', ((0, None),)))

    def test_on_the_day_of_another_one(self):
        self.same(changes.with_stay(SITE, 'saw', 4, 'mill')[1][1], ('saw', ((0, 'mill'), (4, 'mill'))))
        self.same(changes.with_stay(MOVES, 'belt', 3, 'lift')[1][1], ('belt', ((0, 'lift'), (3, 'lift'))))

    def test_at_the_place_where_it_is_already(self):
        self.same(changes.with_stay(SITE, 'saw', 6, 'lift')[1][1], ('saw', ((0, 'mill'), (4, 'lift'), (6, 'lift'))))
        self.same(changes.with_stay(SITE, 'saw', 4, 'lift')[1], SITE[1])

    def test_as_defined(self):
        for site in SITES:
            for (part, stays), day, place in product(site[1], range(0, 13, 3), places_in(site)):
                changed = changes.with_stay(site, part, day, place)
                self.same(lets_site(changed), len(site[2]))
                self.same((changed[0], changed[2]), (site[0], site[2]))
                for other, _ in site[1]:
                    want = [place if other == part and at >= day else place_of(site, other, at) for at in DAYS]
                    self.same([place_of(changed, other, at) for at in DAYS], want)
                self.same([stay for stay in dict(changed[1])[part] if stay[0] < day], [stay for stay in stays if stay[0] < day])
                self.same(dict(changed[1])[part][-1], (day, place))

    def test_wrong(self):
        for part in NO_NAME + (None, 'lift', 'oil'):
            for day, place in ((0, None), (-1, 'nobody'), (None, 5)):
                self.raises(NotUsable, {'word': 'part', 'at': -1}, changes.with_stay, SITE, part, day, place)
                self.raises(NotUsable, {'word': 'part', 'at': -1}, changes.with_stay, EMPTY, part, day, place)
        for day, place in product(NO_NUMBER, (None, 'lift', 'nobody', True)):
            self.raises(NotUsable, {'word': 'day', 'at': -1}, changes.with_stay, SITE, 'saw', day, place)
        for place in NO_NAME + ('pump', 'oil', (), ('lift',)):
            self.raises(NotUsable, {'word': 'place', 'at': -1}, changes.with_stay, SITE, 'saw', 3, place)


class TestExchanged(Case):
    def test_ordinary(self):
        want = (('pump', ((0, 'lift'), (2, 'mill'), (4, 'lift'))), ('saw', ((0, 'mill'), (2, 'lift'))))
        self.same(changes.exchanged(SITE, 'pump', 'saw', 2), (SITE[0], want, SITE[2]))
        self.same(changes.exchanged(SITE, 'saw', 'pump', 2), (SITE[0], want, SITE[2]))
        self.same(changes.exchanged(day=2, other='saw', part='pump', site=SITE)[1], want)

    def test_on_day_0(self):
        self.same(changes.exchanged(SITE, 'pump', 'saw', 0)[1], (('pump', SITE[1][1][1]), ('saw', SITE[1][0][1])))

    def test_on_the_day_of_a_stay(self):
        want = (('pump', ((0, 'lift'), (4, 'lift'))), ('saw', ((0, 'mill'), (4, 'lift'))))
        self.same(changes.exchanged(SITE, 'pump', 'saw', 4)[1], want)
        told = changes.exchanged(MOVES, 'belt', 'disc', 2)[1]
        self.same(told[1], ('belt', ((0, 'lift'), (2, 'lift'))))
        self.same(told[3], ('disc', ((0, 'crane'), (1, 'crane'), (2, 'lift'), (3, None), (7, 'mill'))))

    def test_of_parts_in_the_same_place(self):
        want = (('pump', ((0, 'lift'), (7, 'lift'))), ('saw', ((0, 'mill'), (4, 'lift'), (7, 'lift'))))
        self.same(changes.exchanged(SITE, 'pump', 'saw', 7)[1], want)
        told = changes.exchanged(MOVES, 'axle', 'chain', 1)[1]
        self.same((told[0], told[2]), (('axle', ((0, None), (1, None), (5, 'crane'))), ('chain', ((0, None), (1, None)))))

    def test_as_defined(self):
        for site in SITES:
            for (part, stays), (other, others) in permutations(site[1], 2):
                for day in (0, 1, 4, 7, 30):
                    changed = changes.exchanged(site, part, other, day)
                    self.same(lets_site(changed), len(site[2]))
                    self.same((changed[0], changed[2]), (site[0], site[2]))
                    for name, own, taken in ((part, stays, others), (other, others, stays)):
                        want = [stay for stay in own if stay[0] < day] + [(day, days.place(taken, day))]
                        want += [stay for stay in taken if stay[0] > day]
                        self.same(dict(changed[1])[name], tuple(want))
                    for name in dict(site[1]):
                        if name not in (part, other):
                            self.same(dict(changed[1])[name], dict(site[1])[name])

    def test_wrong(self):
        for part in NO_NAME + (None, 'lift', 'oil'):
            for other, day in (('saw', 0), ('nobody', -1), (None, None)):
                self.raises(NotUsable, {'word': 'part', 'at': -1}, changes.exchanged, SITE, part, other, day)
        for other in NO_NAME + (None, 'lift', 'oil', 'pump'):
            for day in (0, -1, None):
                self.raises(NotUsable, {'word': 'other', 'at': -1}, changes.exchanged, SITE, 'pump', other, day)
        for day in NO_NUMBER:
            self.raises(NotUsable, {'word': 'day', 'at': -1}, changes.exchanged, SITE, 'pump', 'saw', day)


class TestTasks(Case):
    def wrong(self, word, at, task, site=SITE):
        self.raises(InvalidPaper, {'word': word, 'at': at}, changes.with_task, site, task)

    def test_in_the_order_of_the_names(self):
        for name, at in (('a', 0), ('clean', None), ('clear', 1), ('oik', 1), ('oils', 2), ('zoo', 2)):
            task = (name, 'saw', 'kept', ('cycles', 5), (0, 9, 0))
            if at is not None:
                made = changes.with_task(SITE, task)
                self.same(made, SITE[:2] + (SITE[2][:at] + (task,) + SITE[2][at:],))
                self.same((number_of(made, name), part_of(made, name)), (at, 'saw'))
                self.same(changes.without_task(made, name), SITE)
        self.same(changes.with_task(task=OIL, site=SITE[:2] + ((),)), SITE[:2] + ((OIL,),))

    def test_more_tasks_than_four(self):
        site = SITE
        for name in ('e', 'd', 'c', 'b', 'a', 'z'):
            site = changes.with_task(site, (name, 'pump', 'fresh', ('days', 1), (0, 0, 0)))
        self.same(tasks_of(site, 'pump'), ('a', 'b', 'c', 'd', 'e', 'oil', 'z'))

    def test_no_tuple_of_five_stands_behind(self):
        for odd in ODD + (OIL[:4], ('a',) + OIL[1:] + (0,), list(OIL), 'abcde', ('A',) + OIL[1:], (1,) + OIL[1:], (None,) * 5):
            self.wrong('task', 2, odd)
            self.wrong('task', 0, odd, EMPTY)

    def test_the_name_of_another_one_stands_behind(self):
        for task in (OIL, CLEAN, ('oil', 'saw', 'fresh', ('days', 1), (0, 0, 0)), ('clean', 'nobody', None, 5, 5)):
            self.wrong('task', 2, task)

    def test_wrong_tasks_where_they_stand(self):
        for name, at in (('a', 0), ('move', 1), ('z', 2)):
            for odd in NO_NAME[:20]:
                if odd not in ('oils', 'o'):
                    self.wrong('task', at, (name, odd, 'way', None, None))
            for odd in ('lift', 'oil', 'nobody'):
                self.wrong('owner', at, (name, odd, 'way', None, None))
            for odd in NO_WAY:
                self.wrong('way', at, (name, 'saw', odd, None, None))
            for odd in NO_LIMIT:
                self.wrong('limit', at, (name, 'saw', 'kept', odd, None))
            for odd in NO_SLACK:
                self.wrong('slack', at, (name, 'saw', 'fresh', ('days', 1), odd))
        self.wrong('owner', 0, OIL, EMPTY)

    def test_without_task(self):
        self.same(changes.without_task(SITE, 'oil'), SITE[:2] + ((CLEAN,),))
        self.same(changes.without_task(name='clean', site=SITE), SITE[:2] + ((OIL,),))
        self.same(changes.without_task(SITE[:2] + ((OIL,),), 'oil'), SITE[:2] + ((),))
        for site in SITES:
            for task in site[2]:
                self.same(changes.with_task(changes.without_task(site, task[0]), task), site)

    def test_with_limit(self):
        made = changes.with_limit(SITE, 'oil', ('days', 9), (0, 0, 2))
        self.same(made, SITE[:2] + ((CLEAN, ('oil', 'pump', 'kept', ('days', 9), (0, 0, 2))),))
        self.same(due_day(made, 'oil', 3), 12)
        self.same(changes.with_limit(slack=OIL[4], limit=OIL[3], name='oil', site=SITE), SITE)
        deep = changes.with_limit(SITE, 'oil', nested(2000), (0, 0, 0))
        self.assertIs(changes.with_way(deep, 'clean', 'kept')[2][1], deep[2][1])

    def test_with_way(self):
        self.same(changes.with_way(SITE, 'oil', 'fresh'), SITE[:2] + ((CLEAN, OIL[:2] + ('fresh',) + OIL[3:]),))
        self.same(changes.with_way(way='fresh', name='clean', site=SITE), SITE)

    def test_wrong(self):
        for name in NO_NAME + (None, 'pump', 'lift'):
            self.raises(NotUsable, {'word': 'task', 'at': -1}, changes.without_task, SITE, name)
            self.raises(NotUsable, {'word': 'task', 'at': -1}, changes.without_task, EMPTY, name)
            for limit, slack in ((('days', 1), (0, 0, 0)), (None, None), (('days', 0), [])):
                self.raises(NotUsable, {'word': 'task', 'at': -1}, changes.with_limit, SITE, name, limit, slack)
            for way in ('kept', 'no', None):
                self.raises(NotUsable, {'word': 'task', 'at': -1}, changes.with_way, SITE, name, way)
        for limit, slack in product(NO_LIMIT, ((0, 0, 0), None)):
            self.raises(NotUsable, {'word': 'limit', 'at': -1}, changes.with_limit, SITE, 'oil', limit, slack)
        for slack in NO_SLACK:
            self.raises(NotUsable, {'word': 'slack', 'at': -1}, changes.with_limit, SITE, 'oil', ('days', 1), slack)
        for way in NO_WAY:
            self.raises(NotUsable, {'word': 'way', 'at': -1}, changes.with_way, SITE, 'oil', way)


class TestUses(Case):
    def test_ordinary(self):
        made = changes.with_uses(SITE, 'mill', ((1, 1),))
        self.same(made, (((SITE[0][0]), ('mill', ((1, 1),))),) + SITE[1:])
        self.same([use_of(made, 'mill', day) for day in (0, 5)], [(1, 1), (1, 1)])
        self.same(parts_at(made, 'mill', 2), ('saw',))
        self.same(changes.with_uses(uses=SITE[0][0][1], machine='lift', site=SITE), SITE)
        self.same(changes.with_uses(SITE, 'lift', ((0, 0), (10 ** 59, 1)))[0][0], ('lift', ((0, 0), (10 ** 59, 1))))

    def test_wrong(self):
        for machine in NO_NAME + (None, 'pump', 'oil'):
            for uses in (((1, 1),), (), None):
                self.raises(NotUsable, {'word': 'machine', 'at': -1}, changes.with_uses, SITE, machine, uses)
                self.raises(NotUsable, {'word': 'machine', 'at': -1}, changes.with_uses, EMPTY, machine, uses)
        for uses in NO_USES:
            self.raises(NotUsable, {'word': 'uses', 'at': -1}, changes.with_uses, SITE, 'mill', uses)


class TestDays(Case):
    """(W1) of [9] for changed sites: exact whatever stays, moves and uses; with more use none is later."""

    def changed(self, site):
        yield changes.with_stay(site, 'saw', 3, None)
        yield changes.with_stay(site, 'pump', 2, site[0][-1][0])
        yield changes.exchanged(site, 'saw', 'pump', 4)
        yield changes.with_uses(site, site[0][0][0], ((1, 0), (0, 2), (2, 1)))

    def test_counted_one_by_one(self):
        for site in [SITE] + SITES[2:]:
            for other in self.changed(site):
                for task, base in product(other[2], (0, 3, 8)):
                    self.same(days_for(other, task, base), days.early_due_late(other, task, base))

    def test_more_use(self):
        for site in [SITE] + SITES[2:]:
            machine, uses = site[0][0]
            more = changes.with_uses(site, machine, tuple((hours + 1, cycles + 1) for hours, cycles in uses))
            for task, base in product(site[2], (0, 5)):
                for day, other in zip(days_for(site, task, base), days_for(more, task, base)):
                    self.assertTrue(day is None or other is not None and other <= day)


class TestArguments(Case):
    def test_lists_stay_as_they_are(self):
        odd = [['oil', 'pump'], [0]]
        self.raises(InvalidPaper, {'word': 'task', 'at': 2}, changes.with_task, SITE, odd)
        self.raises(NotUsable, {'word': 'uses', 'at': -1}, changes.with_uses, SITE, 'mill', odd)
        self.raises(NotUsable, {'word': 'limit', 'at': -1}, changes.with_limit, SITE, 'oil', odd, odd)
        self.same(odd, [['oil', 'pump'], [0]])


class TestExamples(Case):
    def test_exchanged(self):
        self.examples("""
    >>> from whichfirst.sitechanges import exchanged
    >>> exchanged(SITE, 'pump', 'saw', 2)[1]
    (('pump', ((0, 'lift'), (2, 'mill'), (4, 'lift'))), ('saw', ((0, 'mill'), (2, 'lift'))))
        """)
