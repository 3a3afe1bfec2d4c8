"""Bounds and runs within them ([52], by [8] and [3])."""

from itertools import product

from helpers import ODD, Case
from whichfirst.boundchecker import lets_bounds, lets_run
from whichfirst.errors import InvalidPaper, NotUsable

SITE = (
    (('lift', ((8, 2),)), ('mill', ((2, 5), (6, 0)))),
    (('pump', ((0, 'lift'),)),),
    (('clean', 'pump', 'fresh', ('days', 6), (0, 0, 0)),),
)
LOW = (('lift', ((7, 0),)), ('mill', ((0, 0), (1, 1), (2, 2))))
HIGH = (('lift', ((8, 2),)), ('mill', ((0, 0), (9, 9), (2, 3))))
BOUNDS = (LOW, HIGH)
NOTHING = ((), (), ())
NO_MACHINES = ODD[:-1] + (
    list(LOW), [LOW], (['lift', ((7, 0),)],), (('lift', ()), ('mill', ((0, 0),))), LOW[::-1], (LOW[0], LOW[0]),
    (('lift', [(7, 0)]), LOW[1]), (('lift', ((7, True),)), LOW[1]), (('lift', ((7, -1),)), LOW[1]), (('Lift', ((7, 0),)),),
    (('lift', ((7, 0, 0),)),), ('lift', ((7, 0),)), (('lift', ((7, 0),), 1),),
)
NO_MACHINES = tuple(value for value in NO_MACHINES if value != ())


def changed(machines, i, uses):
    """The machines with other uses of machine i."""
    return machines[:i] + ((machines[i][0], uses),) + machines[i + 1:]


class TestBounds(Case):
    def wrong(self, word, at, thing, site=SITE):
        self.raises(InvalidPaper, {'word': word, 'at': at}, lets_bounds, site, thing)

    def test_ordinary(self):
        self.same(lets_bounds(SITE, BOUNDS), 4)
        self.same(lets_bounds(SITE, (LOW, LOW)), 4)
        self.same(lets_bounds(SITE, (SITE[0], SITE[0])), 3)
        self.same(lets_bounds(site=SITE, thing=(HIGH, HIGH)), 4)

    def test_a_site_without_machines(self):
        self.same(lets_bounds(NOTHING, ((), ())), 0)
        self.wrong('names', 0, BOUNDS, NOTHING)
        self.wrong('names', 1, ((), LOW), NOTHING)

    def test_as_many_uses_as_each_other_not_as_the_site(self):
        long = tuple((name, ((1, 1),) * 9) for name, _ in SITE[0])
        self.same(lets_bounds(SITE, (long, long)), 18)

    def test_shape(self):
        for thing in ODD + (BOUNDS + (HIGH,), (LOW,), list(BOUNDS), LOW[0], SITE):
            self.wrong('shape', -1, thing)
        for odd in NO_MACHINES:
            self.wrong('shape', -1, (odd, HIGH))
            self.wrong('shape', -1, (LOW, odd))
            self.wrong('shape', -1, ((), odd))

    def test_names(self):
        for other in ((), LOW[:1], LOW[1:], LOW + (('saw', ((0, 0),)),), (LOW[0], ('mil', LOW[1][1])), (('a', ((0, 0),)),) + LOW):
            self.wrong('names', 0, (other, HIGH))
            self.wrong('names', 1, (LOW, other))
            self.wrong('names', 0, (other, other))

    def test_many(self):
        self.wrong('many', 0, (LOW, changed(HIGH, 0, ((8, 2), (8, 2)))))
        self.wrong('many', 1, (LOW, changed(HIGH, 1, HIGH[1][1][:2])))
        self.wrong('many', 1, (changed(LOW, 1, ((0, 0),)), HIGH))

    def test_use(self):
        for i, j in ((0, 0), (1, 0), (1, 1), (1, 2)):
            for k in range(2):
                uses = [list(use) for use in HIGH[i][1]]
                uses[j][k] += 1
                self.wrong('use', (i, j), (changed(LOW, i, tuple(tuple(use) for use in uses)), HIGH))

    def test_a_number_of_low_is_greater_though_the_other_is_not(self):
        one = (('a', ((5, 5),)),), (), ()
        for low, high in product(product(range(4, 7), repeat=2), repeat=2):
            thing = ((('a', (low,)),), (('a', (high,)),))
            if low[0] <= high[0] and low[1] <= high[1]:
                self.same(lets_bounds(one, thing), 1)
            else:
                self.wrong('use', (0, 0), thing, one)

    def test_the_first_of_several(self):
        # Names of low come ahead of those of high, these ahead of uses; a machine ahead of the next one.
        self.wrong('shape', -1, ((), [HIGH]))
        self.wrong('names', 0, (LOW[:1], HIGH[1:]))
        self.wrong('names', 1, (changed(LOW, 0, ((9, 9),)), HIGH[:1]))
        self.wrong('use', (0, 0), (changed(changed(LOW, 0, ((9, 0),)), 1, ((0, 0),)), HIGH))
        self.wrong('many', 0, (changed(changed(LOW, 0, ((9, 9),) * 2), 1, ((9, 9),) * 3), HIGH))
        self.wrong('many', 1, (changed(LOW, 1, ((99, 0),) * 2), HIGH))
        self.wrong('use', (1, 1), (changed(LOW, 1, ((0, 0), (1, 10), (3, 3))), HIGH))


class TestRun(Case):
    def wrong(self, word, at, thing, site=SITE, bounds=BOUNDS):
        self.raises(InvalidPaper, {'word': word, 'at': at}, lets_run, site, bounds, thing)

    def test_ordinary(self):
        self.same(lets_run(SITE, BOUNDS, LOW), 4)
        self.same(lets_run(SITE, BOUNDS, HIGH), 4)
        self.same(lets_run(SITE, BOUNDS, (('lift', ((8, 0),)), ('mill', ((0, 0), (9, 1), (2, 2))))), 4)
        self.same(lets_run(site=SITE, bounds=BOUNDS, thing=LOW), 4)
        self.same(lets_run(NOTHING, ((), ()), ()), 0)

    def test_bounds_first(self):
        for odd in ODD + (LOW, (HIGH, LOW), list(BOUNDS), (LOW, HIGH[:1]), (LOW, changed(HIGH, 0, HIGH[0][1] * 2)), (SITE[0], HIGH)):
            for thing in (LOW, None, (), [LOW]):
                self.raises(NotUsable, {'word': 'bounds', 'at': -1}, lets_run, SITE, odd, thing)

    def test_shape(self):
        for odd in NO_MACHINES:
            self.wrong('shape', -1, odd)

    def test_names(self):
        for thing in ((), LOW[:1], LOW[1:], LOW + (('saw', ((0, 0),)),), (LOW[0], ('mil', LOW[1][1]))):
            self.wrong('names', -1, thing)

    def test_many(self):
        self.wrong('many', 0, changed(LOW, 0, ((7, 0), (7, 0))))
        self.wrong('many', 1, changed(LOW, 1, LOW[1][1][:2]))
        self.wrong('many', 1, changed(LOW, 1, LOW[1][1] + ((2, 2),)))

    def test_use(self):
        for i, j in ((0, 0), (1, 0), (1, 1), (1, 2)):
            for bound, by in ((LOW, -1), (HIGH, 1)):
                for k in range(2):
                    uses = [list(use) for use in bound[i][1]]
                    uses[j][k] += by
                    if uses[j][k] >= 0:
                        self.wrong('use', (i, j), changed(bound, i, tuple(tuple(use) for use in uses)))

    def test_plain_look(self):
        site = ((('a', ((5, 5),)),), (), ())
        bounds = ((('a', ((1, 2),)),), (('a', ((3, 2),)),))
        for use in product(range(5), repeat=2):
            thing = (('a', (use,)),)
            if 1 <= use[0] <= 3 and use[1] == 2:
                self.same(lets_run(site, bounds, thing), 1)
            else:
                self.wrong('use', (0, 0), thing, site, bounds)

    def test_the_first_of_several(self):
        self.wrong('names', -1, changed(LOW, 0, ((99, 99),))[:1])
        self.wrong('use', (0, 0), changed(changed(LOW, 0, ((6, 0),)), 1, ((0, 0),)))
        self.wrong('many', 0, changed(changed(LOW, 0, ((6, 0),) * 2), 1, ((0, 9),) * 3))
        self.wrong('many', 1, changed(LOW, 1, ((50, 0),) * 2))
        self.wrong('use', (1, 0), changed(LOW, 1, ((1, 0), (50, 0), (2, 2))))

    def test_lists_stay_as_they_are(self):
        thing = [['lift', [[7, 0]]]]
        self.wrong('shape', -1, thing)
        self.raises(NotUsable, {'word': 'bounds', 'at': -1}, lets_run, SITE, thing, thing)
        self.raises(InvalidPaper, {'word': 'shape', 'at': -1}, lets_bounds, SITE, thing)
        self.same(thing, [['lift', [[7, 0]]]])
