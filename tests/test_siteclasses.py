"""Sites as objects ([20], [21], by [12], [13], [16] to [18] and [19])."""

from itertools import islice, product
from random import Random

import days
from helpers import NO_NAME, NO_NUMBER, ODD, Case
from look import NO_LIMIT
from sites import CLEAN, EMPTY, MACHINES, MOVES, OIL, PARTS, SITE
from test_kinds import BAD, nested
from whichfirst import sitechanges
from whichfirst.books import Book
from whichfirst.dues import Due
from whichfirst.errors import InvalidPaper, InvalidText, NotUsable, WhichError
from whichfirst.limitclasses import Limit
from whichfirst.siteclasses import Renamed, Shelved, Site
from whichfirst.sitechecker import lets_site
from whichfirst.siteparts import place_of, use_of
from whichfirst.sitetexts import site_text

SITES = [SITE, MOVES, EMPTY] + days.small_sites(50, 20)
NO_SITES = (
    (list(MACHINES), PARTS, SITE[2]), (MACHINES, None, ()), (MACHINES, PARTS, [CLEAN]), (MACHINES[::-1], PARTS, ()), (MACHINES[:1] * 2, PARTS, ()),
    (MACHINES[:1], PARTS, SITE[2]), ((), PARTS, ()), (MACHINES, PARTS[::-1], ()), (MACHINES, (('pump', ((1, 'lift'),)),), ()),
    (MACHINES, PARTS, (OIL, CLEAN)), (MACHINES, PARTS[:1], SITE[2]), (MACHINES, PARTS, (OIL[:2] + ('way',) + OIL[3:],)),
    (MACHINES, PARTS, (OIL[:3] + (('days', 0), (0, 0, 0)),)), (MACHINES, PARTS, (OIL[:4] + ((0, 0),),)), (MACHINES, PARTS, (OIL[:4],)),
    ((('lift', ((8, True),)),), PARTS, ()), (True, (), ()), ((), (), None), (None, (), ()), ((), (5,), ()), ('', '', ''),
)


def made(form):
    return Site(form[0], form[1], form[2])


def kinds_of(form):
    """The same site of each class."""
    site = made(form)
    return [site, Shelved(site), Renamed(site), Shelved(Renamed(Shelved(site)))]


def told(site):
    """All that a Site says without arguments."""
    return (site.machines, site.parts, site.tasks, site.form, len(site), list(site), str(site))


def outcome(call, *args):
    """The result, or the error with its fields."""
    try:
        return call(*args)
    except WhichError as error:
        return (type(error).__name__, vars(error))


class TestMaking(Case):
    def test_properties(self):
        site = Site(MACHINES, PARTS, SITE[2])
        self.same(told(site), (MACHINES, PARTS, SITE[2], SITE, 2, ['clean', 'oil'], site_text(SITE)))
        self.same(told(Site(tasks=(), machines=MACHINES)), (MACHINES, (), (), (MACHINES, (), ()), 0, [], site_text((MACHINES, (), ()))))
        self.same(told(Site()), ((), (), (), EMPTY, 0, [], ''))
        for form in SITES:
            self.same(told(made(form)), form + (form, len(form[2]), [task[0] for task in form[2]], site_text(form)))

    def test_the_errors_of_lets_site(self):
        for form in NO_SITES + tuple((odd, (), ()) for odd in ODD if odd != ()) + tuple(((), (), odd) for odd in ODD if odd != ()):
            with self.assertRaises(InvalidPaper) as caught:
                lets_site(form)
            self.raises(InvalidPaper, vars(caught.exception), Site, *form)
            self.raises(InvalidPaper, vars(caught.exception), Site, tasks=form[2], parts=form[1], machines=form[0])

    def test_nothing_can_be_set(self):
        for site in kinds_of(SITE):
            for name in ('machines', 'parts', 'tasks', 'form') + ('source',) * (type(site) is not Site):
                self.assertRaises(AttributeError, setattr, site, name, ())
            self.same(site.form, SITE)


class TestRead(Case):
    def test_items(self):
        for site in kinds_of(SITE):
            self.same((site['clean'], site['oil']), (CLEAN, OIL))
            for odd in ODD + ('pump', 'lift', 0, 1, ('oil',), b'oil', slice(0, 1), site, Due(SITE, 'oil', 0)):
                self.raises(NotUsable, {'word': 'task', 'at': -1}, lambda: site[odd])
        self.raises(NotUsable, {'word': 'task', 'at': -1}, lambda: Site()['oil'])

    def test_contained(self):
        for site in kinds_of(SITE):
            self.same(['clean' in site, 'oil' in site, 'pump' in site], [True, True, False])
            for odd in ODD + (OIL, 0, site, ['oil'], Limit.days(3), Due(SITE, 'oil', 0)):
                self.same(odd in site, False)

    def test_iterated(self):
        site = made(SITE)
        self.same([(name, other) for name in site for other in site], [(a, b) for a in ('clean', 'oil') for b in ('clean', 'oil')])
        self.same((list(Renamed(site, clean='wash')), len(Renamed(site, clean='wash'))), (['oil', 'wash'], 2))
        names = list(site)
        names.append('more')
        self.same((list(site), len(site)), (['clean', 'oil'], 2))

    def test_equal(self):
        """By their forms, of whatever class; no other value is equal."""
        all_kinds = kinds_of(SITE)
        for site, other in product(all_kinds, repeat=2):
            self.same((site == other, site != other), (True, False))
        others = [made(form) for form in SITES[1:]] + [Site(), Shelved(made(SITE), 'saw'), Renamed(made(SITE), oil='grease'), made(SITE) - 'oil']
        for site, other in product(all_kinds, others):
            self.same((site == other, other == site, site != other), (False, False, True))
        for value in ODD + (SITE, str(made(SITE)), ['clean', 'oil'], Book(SITE), Limit.days(3), Due(SITE, 'oil', 0), Site, object()):
            for site in all_kinds + [Site()]:
                self.same((site == value, value == site, site != value), (False, False, True))
        self.same(Shelved(made(SITE), 'saw') == made(SITE).moved('saw', 0, None), True)
        self.same(Renamed(made(SITE), clean='oil', oil='clean') == made(SITE), False)

    def test_equal_with_deep_limits(self):
        deep, other = [made(sitechanges.with_limit(SITE, 'oil', ('first', (nested(2000), ('days', n))), (0, 0, 0))) for n in (1, 2)]
        self.same((deep == made(deep.form), deep == other), (True, False))

    def test_str(self):
        for form in SITES:
            for site in kinds_of(form):
                self.same(str(site), site_text(form))

    def test_called(self):
        for form in SITES:
            for site, part, day in product(kinds_of(form)[:2], [part for part, _ in form[1]] + ['nobody', None, True], (0, 3, 10 ** 59, -1, True)):
                self.same(outcome(site, part, day), outcome(place_of, form, part, day))
        self.same(made(SITE)(day=4, part='saw'), 'lift')

    def test_stands(self):
        site = made(MOVES)
        self.same(list(site.stands(6)), [
            ('axle', None, (0, 0)), ('belt', None, (0, 0)), ('chain', 'crane', (5, 0)), ('disc', 'lift', (8, 2)),
        ])
        self.same(list(site.stands(day=0)), [('axle', None, (0, 0)), ('belt', 'lift', (8, 2)), ('chain', None, (0, 0)), ('disc', 'crane', (1, 1))])
        for form in SITES:
            for day in (0, 2, 5, 11, 10 ** 59):
                rows = list(made(form).stands(day))
                places = [(part, place_of(form, part, day)) for part, _ in form[1]]
                self.same(rows, [(part, place, (0, 0) if place is None else use_of(form, place, day)) for part, place in places])

    def test_stands_is_gone_through_one_by_one(self):
        site = made(SITE)
        rows = site.stands(1)
        self.same(list(islice(rows, 1)), [('pump', 'lift', (8, 2))])
        self.same(list(rows), [('saw', 'mill', (6, 0))])
        for odd in NO_NUMBER:
            rows = site.stands(odd)
            self.raises(NotUsable, {'word': 'day', 'at': -1}, next, rows)
            self.raises(NotUsable, {'word': 'day', 'at': -1}, list, Site().stands(odd))


CHANGES = (
    ('moved', 'with_stay', (('saw', 'pump', 'nobody', None), (2, 0, -1, True), ('mill', None, 'nowhere', 5))),
    ('swapped', 'exchanged', (('saw', 'nobody', 1), ('pump', 'saw', 'nobody', None), (2, 0, -1, None))),
    ('limited', 'with_limit', (('oil', 'nobody', ('oil',)), (('days', 3), nested(30), ('days', 0), None), ((0, 1, 2), (0, 0), None))),
    ('turned', 'with_way', (('oil', 'clean', 'nobody', True), ('fresh', 'kept', 'way', None, ('kept',)))),
    ('used', 'with_uses', (('lift', 'mill', 'pump', None), (((1, 1),), ((0, 0), (9, 9)), (), [(1, 1)], ((1, True),), None))),
)
BY_NAME = {
    'moved': {'place': None, 'part': 'saw', 'day': 2}, 'swapped': {'day': 2, 'other': 'pump', 'part': 'saw'},
    'limited': {'slack': (0, 0, 1), 'limit': ('days', 9), 'name': 'oil'}, 'turned': {'way': 'fresh', 'name': 'oil'},
    'used': {'uses': ((1, 1),), 'machine': 'lift'},
}


class TestChanged(Case):
    def same_as(self, site, got, want):
        """The outcome of a function, as a Site of the class Site itself."""
        if isinstance(want, tuple) and len(want) == 3:
            self.assertIs(type(got), Site)
            self.same(got.form, want)
            self.same(told(got), told(made(want)))
        else:
            self.same(got, want)
        self.same(site.form, SITE)

    def test_as_the_functions(self):
        for site in kinds_of(SITE):
            for method, function, choices in CHANGES:
                for args in product(*choices):
                    self.same_as(site, outcome(getattr(site, method), *args), outcome(getattr(sitechanges, function), SITE, *args))

    def test_by_name(self):
        for method, function, _ in CHANGES:
            named = BY_NAME[method]
            self.same_as(made(SITE), getattr(made(SITE), method)(**named), getattr(sitechanges, function)(SITE, **named))

    def test_a_task_more(self):
        more = [('a',) + OIL[1:], ('zz',) + CLEAN[1:], ('m', 'saw', 'fresh', nested(30), (0, 0, 0))]
        wrong = list(ODD) + [OIL, CLEAN, list(OIL), OIL[:4], ('a', 'nobody') + OIL[2:], ('a', 'pump', 'way') + OIL[3:], ('a',) + OIL[1:4] + ((0, 0),), Site()]
        for site in kinds_of(SITE):
            for task in more + wrong:
                self.same_as(site, outcome(lambda: site + task), outcome(sitechanges.with_task, SITE, task))
        self.raises(InvalidPaper, {'word': 'task', 'at': 2}, lambda: made(SITE) + OIL)
        self.raises(InvalidPaper, {'word': 'task', 'at': 0}, lambda: Site() + None)

    def test_a_task_less(self):
        for site in kinds_of(SITE):
            for name in ('clean', 'oil') + ODD + ('pump', 0, ('oil',), site):
                self.same_as(site, outcome(lambda: site - name), outcome(sitechanges.without_task, SITE, name))
        self.same(len(made(SITE) - 'oil' - 'clean'), 0)
        self.same(((made(SITE) - 'oil') + OIL) == made(SITE), True)

    def test_signs_that_assign_make_a_new_one(self):
        site = before = made(SITE)
        site -= 'oil'
        self.same((list(site), list(before)), (['clean'], ['clean', 'oil']))
        site += OIL
        self.same((site == before, site is before), (True, False))

    def test_of_derived_classes_nothing_stays(self):
        site = Shelved(made(SITE), 'saw') - 'oil'
        self.same((type(site) is Site, site('saw', 9), hasattr(site, 'source')), (True, None, False))


class TestParsed(Case):
    def test_what_is_written_is_read_back(self):
        for form in SITES:
            site = Site.parsed(site_text(form))
            self.same((type(site) is Site, site.form), (True, form))
            self.same((Site.parsed(text=str(site)) == site, str(Site.parsed(str(site)))), (True, str(site)))

    def test_the_errors_of_site_read_then_those_of_site(self):
        self.raises(InvalidText, {'line': 1, 'field': 2}, Site.parsed, 'machine b 8:2\npart a 1:b')
        self.raises(InvalidText, {'line': 0, 'field': 0}, Site.parsed, '\n')
        self.raises(InvalidPaper, {'word': 'place', 'at': (0, 0)}, Site.parsed, 'machine b 8:2\npart a 0:c')
        self.raises(InvalidPaper, {'word': 'machine', 'at': 1}, Site.parsed, 'machine b 8:2\nmachine b 8:2')
        self.raises(InvalidPaper, {'word': 'owner', 'at': 0}, Site.parsed, 'task a b fresh days:1 0:0:0')
        # A line that is not possible comes ahead of a site that is none.
        self.raises(InvalidText, {'line': 2, 'field': 0}, Site.parsed, 'machine b 8:2\nmachine a 8:2\n?')


class TestPlain(Case):
    def test_ordinary(self):
        site = Site.plain((8, 2), (('oil', ('hours', 40)), ('clean', ('days', 6))))
        self.assertIs(type(site), Site)
        self.same(site.form, (
            (('one', ((8, 2),)),), (('one', ((0, 'one'),)),),
            (('clean', 'one', 'fresh', ('days', 6), (0, 0, 0)), ('oil', 'one', 'fresh', ('hours', 40), (0, 0, 0))),
        ))
        self.same(Site.plain(limits=(), use=(0, 0)).form, ((('one', ((0, 0),)),), (('one', ((0, 'one'),)),), ()))
        self.same(len(Site.plain((1, 1), tuple((name, nested(30)) for name in 'zyxabc'))), 6)

    def test_in_any_order(self):
        limits = [('a', ('days', 1)), ('b', ('days', 2)), ('c', nested(2000)), ('d', ('first', (('hours', 3),)))]
        first = Site.plain((1, 1), tuple(limits))
        random = Random(20)
        for _ in range(10):
            random.shuffle(limits)
            self.same(Site.plain((1, 1), tuple(limits)) == first, True)
        self.same([task[:2] for task in first.tasks], [(name, 'one') for name in 'abcd'])

    def test_wrong(self):
        pair = ('a', ('days', 1))
        for odd, limits in product(BAD['is_use'], ((pair,), None, (pair, pair))):
            self.raises(NotUsable, {'word': 'use', 'at': -1}, Site.plain, odd, limits)
        wrong = [value for value in ODD if value != ()] + [pair, [pair], (list(pair),), (pair + (1,),), (('a',),), (pair, pair), (pair, ('a', ('days', 2)))]
        wrong += [((name, ('days', 1)),) for name in NO_NAME if name not in ('oils', 'o')] + [(pair, ('b', odd)) for odd in NO_LIMIT]
        for odd in wrong:
            self.raises(NotUsable, {'word': 'limits', 'at': -1}, Site.plain, (1, 1), odd)


class TestShelved(Case):
    def test_ordinary(self):
        site = made(SITE)
        shelved = Shelved(site, 'saw')
        self.same((shelved.parts, shelved.machines, shelved.tasks), ((PARTS[0], ('saw', ((0, None),))), MACHINES, SITE[2]))
        self.assertTrue(shelved.source is site and isinstance(shelved, Site) and type(shelved) is Shelved)
        self.same((Shelved(site, 'saw', 'pump', 'saw').parts), (('pump', ((0, None),)), ('saw', ((0, None),))))
        self.same(site.form, SITE)
        self.same(Shelved(site=site).form, SITE)

    def test_without_names(self):
        for form in SITES:
            site = made(form)
            self.same((Shelved(site) == site, Shelved(site).source is site), (True, True))

    def test_of_derived_ones(self):
        site = Shelved(made(SITE), 'saw')
        other = Shelved(site, 'pump')
        self.same((other.source is site, other('saw', 0), other('pump', 0)), (True, None, None))
        self.same(list(Renamed(other, oil='grease')), ['clean', 'grease'])

    def test_wrong(self):
        site = made(SITE)
        for odd in ODD + ('oil', 'lift', ('saw',), 0, site):
            self.raises(NotUsable, {'word': 'part', 'at': 0}, Shelved, site, odd)
            self.raises(NotUsable, {'word': 'part', 'at': 0}, Shelved, site, odd, odd)
            self.raises(NotUsable, {'word': 'part', 'at': 2}, Shelved, site, 'saw', 'saw', odd, 'nobody')
        self.raises(NotUsable, {'word': 'part', 'at': 0}, Shelved, Site(), 'saw')


class TestRenamed(Case):
    def test_ordinary(self):
        site = made(SITE)
        renamed = Renamed(site, clean='wash')
        self.same(renamed.tasks, (OIL, ('wash',) + CLEAN[1:]))
        self.assertTrue(renamed.source is site and isinstance(renamed, Site) and type(renamed) is Renamed)
        self.same((renamed['wash'], 'clean' in renamed, site.form), (('wash',) + CLEAN[1:], False, SITE))
        self.same(Renamed(site=site, oil='a').tasks, (('a',) + OIL[1:], CLEAN))
        self.same(Renamed(site, **{'oil': 'oil'}) == site, True)

    def test_without_names(self):
        for form in SITES:
            site = made(form)
            self.same((Renamed(site) == site, Renamed(site).source is site), (True, True))

    def test_two_names_exchanged(self):
        renamed = Renamed(made(SITE), clean='oil', oil='clean')
        self.same(renamed.tasks, (('clean',) + OIL[1:], ('oil',) + CLEAN[1:]))
        self.same(Renamed(renamed, clean='oil', oil='clean') == made(SITE), True)

    def test_two_tasks_with_one_name(self):
        site = made(SITE)
        for names in ({'clean': 'oil'}, {'oil': 'clean'}, {'oil': 'wash', 'clean': 'wash'}):
            self.raises(NotUsable, {'word': 'twice', 'at': -1}, lambda: Renamed(site, **names))
        self.same(list(Renamed(site, clean='oil', oil='grease')), ['grease', 'oil'])

    def test_no_task(self):
        site = made(SITE)
        for names in ({'nobody': 'a'}, {'pump': 'a', 'zz': 'b'}, {'zz': None, 'pump': None, 'oil': None}, {'pump': 'oil', 'clean': 'oil', 'oil': 5}):
            least = min(name for name in names if name not in ('oil', 'clean'))
            self.raises(NotUsable, {'word': 'task', 'at': least}, lambda: Renamed(site, **names))
        self.raises(NotUsable, {'word': 'task', 'at': 'oil'}, lambda: Renamed(Site(), oil='a'))
        self.raises(NotUsable, {'word': 'task', 'at': 'b'}, lambda: Renamed(Site(), c=1, b=2, d=3))

    def test_no_name(self):
        site = made(SITE)
        for odd in NO_NAME[:-4] + (None, ('oil',), 5, site):
            if odd not in ('oils', 'o'):
                self.raises(NotUsable, {'word': 'name', 'at': 'oil'}, lambda: Renamed(site, oil=odd))
                self.raises(NotUsable, {'word': 'name', 'at': 'clean'}, lambda: Renamed(site, oil=odd, clean=odd))
                # Two of one name are told behind it.
                self.raises(NotUsable, {'word': 'name', 'at': 'oil'}, lambda: Renamed(site, clean='oil', oil=odd))

    def test_of_all_small_sites(self):
        random = Random(21)
        for form in SITES:
            names = [task[0] for task in form[2]]
            chosen = dict(zip(names, random.sample(['a', 'b', 'c', 'd', 'zz', 'm'] + names, len(names))))
            renamed = [(chosen[task[0]],) + task[1:] for task in form[2]]
            if len(set(chosen.values())) == len(names):
                self.same(Renamed(made(form), **chosen).tasks, tuple(sorted(renamed, key=lambda task: task[0])))
            else:
                self.raises(NotUsable, {'word': 'twice', 'at': -1}, lambda: Renamed(made(form), **chosen))


class TestExamples(Case):
    def test_sites(self):
        self.examples("""
    >>> from whichfirst.siteclasses import Renamed, Shelved, Site
    >>> site = Site(MACHINES, PARTS, SITE[2])
    >>> [site('saw', 4), list(site.stands(1))[1], Shelved(site, 'saw')('saw', 4), list(Renamed(site, clean='wash')), len(site - 'oil')]
    ['lift', ('saw', 'mill', (6, 0)), None, ['oil', 'wash'], 1]
        """)
