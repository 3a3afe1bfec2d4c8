"""Limits as values ([51])."""

from itertools import product

import plain
from helpers import ODD, Case
from look import CAPS, LIMITS, LOOK, NO_CAPS, NO_LIMIT
from whichfirst.errors import NotUsable
from whichfirst.limitclasses import Limit

BOTH = ('first', (('hours', 40), ('days', 7)))
DEEP = ('later', (BOTH, ('cycles', 3), ('first', (('days', 2), ('later', (('hours', 40),))))))
NO_COUNTS = ODD + ((0, 0), [0, 0, 0], (0, 0, -1), (True, 0, 0), (0, 0, False), (0, None, 0), 'abc')


def state_of(limit):
    return (limit.form, limit.caps, list(limit), len(limit))


class TestMaking(Case):
    def test_form_and_caps(self):
        self.same(Limit(BOTH).form, BOTH)
        self.same(Limit(BOTH).caps, None)
        self.same(Limit(limit=BOTH, caps=(8, 2)).caps, (8, 2))
        self.same(Limit(DEEP, caps=(0, 0)).form, DEEP)

    def test_caps_by_name_only(self):
        self.assertRaises(TypeError, Limit, BOTH, (8, 2))
        self.assertRaises(TypeError, Limit)

    def test_wrong_limit_first(self):
        for odd in NO_LIMIT + (Limit(BOTH),):
            self.raises(NotUsable, {'word': 'limit', 'at': -1}, Limit, odd)
            self.raises(NotUsable, {'word': 'limit', 'at': -1}, Limit, odd, caps=(True, 1))

    def test_wrong_caps(self):
        for odd in NO_CAPS:
            self.raises(NotUsable, {'word': 'caps', 'at': -1}, Limit, BOTH, caps=odd)

    def test_form_cannot_be_set(self):
        limit = Limit(BOTH)
        with self.assertRaises(AttributeError):
            limit.form = DEEP
        self.same(state_of(limit), (BOTH, None, list(BOTH[1]), 2))

    def test_plain_ones(self):
        for make, word in ((Limit.hours, 'hours'), (Limit.cycles, 'cycles'), (Limit.days, 'days')):
            for n in (1, 7, 10 ** 59):
                self.assertIs(type(make(n)), Limit)
                self.same(state_of(make(n)), ((word, n), None, [(word, n)], 1))
                self.same(make(n=n).form, (word, n))
            for odd in ODD + (0, -1, '7', (7,)):
                self.raises(NotUsable, {'word': 'n', 'at': -1}, make, odd)

    def test_plain_ones_are_class_methods(self):
        for name in ('hours', 'cycles', 'days'):
            self.assertIsInstance(vars(Limit)[name], classmethod)
            self.same(getattr(Limit(DEEP, caps=(1, 1)), name)(4).form, (name, 4))


class TestCaps(Case):
    def test_set(self):
        limit = Limit(BOTH)
        for caps in ((8, 2), (0, 0), None, (10 ** 59, 0)):
            limit.caps = caps
            self.same(state_of(limit), (BOTH, caps, list(BOTH[1]), 2))

    def test_set_wrong_changes_nothing(self):
        limit = Limit(BOTH, caps=(8, 2))
        for odd in NO_CAPS:
            self.raises(NotUsable, {'word': 'caps', 'at': -1}, setattr, limit, 'caps', odd)
            self.same(limit.caps, (8, 2))

    def test_they_tell_what_is_later(self):
        one, two = Limit(BOTH, caps=(5, 2)), Limit(('days', 7), caps=(5, 2))
        self.same(two <= one, True)
        one.caps = two.caps = (8, 2)
        self.same(two <= one, False)


class TestCompared(Case):
    def test_never_later(self):
        for caps in CAPS:
            for form, other in product(LIMITS[::5], LIMITS[::9]):
                one, two = Limit(form, caps=caps), Limit(other, caps=caps)
                self.same(one <= two, LOOK.never_later(form, other, caps))
                self.same(one >= two, LOOK.never_later(other, form, caps))

    def test_equal(self):
        self.same(Limit(BOTH) == Limit(BOTH), True)
        self.same(Limit(BOTH) != Limit(BOTH), False)
        self.same(Limit(BOTH, caps=(8, 2)) == Limit(BOTH, caps=(8, 2)), True)
        self.same(Limit(BOTH, caps=(8, 2)) == Limit(BOTH, caps=(8, 3)), False)
        self.same(Limit(BOTH, caps=(0, 0)) == Limit(BOTH), False)
        # Alike limits need not be equal ones.
        self.same(Limit(('first', (('days', 7),))) == Limit(('days', 7)), False)
        self.same(Limit(('first', (('days', 7),))) == Limit(('later', (('days', 7),))), False)
        self.same(Limit(('first', BOTH[1][::-1])) == Limit(BOTH), False)
        self.same(Limit(DEEP) == Limit(('later', (BOTH, ('cycles', 3), ('first', (('days', 2), ('first', (('hours', 40),))))))), False)

    def test_equal_just_if_the_forms_are(self):
        forms = LIMITS + [('first', ((word, (('days', 1),)), ('days', 2))) for word in ('first', 'later')]
        forms += [('first', (('later', (('days', 1), ('days', 2))),)), ('first', (('later', (('days', 1),)), ('days', 2)))]
        for form in forms[::3]:
            for other in forms:
                self.same(Limit(form) == Limit(other), form == other)

    def test_equal_to_no_other_value(self):
        for other in ODD + (BOTH, (BOTH, None), object(), Limit):
            self.same(Limit(BOTH) == other, False)
            self.same(other == Limit(BOTH), False)
            self.same(Limit(BOTH) != other, True)

    def test_wrong_other(self):
        limit = Limit(BOTH, caps=(8, 2))
        for other in ODD + (BOTH, Limit(BOTH), Limit(BOTH, caps=(2, 8)), Limit(('days', 7), caps=(8, 3)), object()):
            for call in (
                lambda: limit <= other, lambda: limit >= other, lambda: limit & other, lambda: limit | other,
                lambda: limit.__iand__(other), lambda: limit.__ior__(other),
            ):
                self.raises(NotUsable, {'word': 'b', 'at': -1}, call)
                self.same(state_of(limit), (BOTH, (8, 2), list(BOTH[1]), 2))

    def test_compared_from_the_right(self):
        self.raises(NotUsable, {'word': 'b', 'at': -1}, lambda: 5 <= Limit(BOTH))
        self.raises(NotUsable, {'word': 'b', 'at': -1}, lambda: BOTH >= Limit(BOTH))


class TestJoined(Case):
    def test_new_ones(self):
        one, two = Limit(BOTH, caps=(8, 2)), Limit(('days', 7), caps=(8, 2))
        for made, word in ((one & two, 'first'), (one | two, 'later')):
            form = (word, (BOTH, ('days', 7)))
            self.assertIs(type(made), Limit)
            self.same(state_of(made), (form, (8, 2), [('hours', 40), ('days', 7), ('days', 7)], 3))
        self.same((one & one).form, ('first', (BOTH, BOTH)))
        self.same(state_of(one), (BOTH, (8, 2), list(BOTH[1]), 2))
        self.same(state_of(two), (('days', 7), (8, 2), [('days', 7)], 1))

    def test_in_place(self):
        for word in ('first', 'later'):
            one, two = Limit(BOTH, caps=(8, 2)), Limit(('cycles', 3), caps=(8, 2))
            kept = one
            if word == 'first':
                one &= two
            else:
                one |= two
            self.assertIs(one, kept)
            form = (word, (BOTH, ('cycles', 3)))
            self.same(state_of(one), (form, (8, 2), [('hours', 40), ('days', 7), ('cycles', 3)], 3))
            self.same(state_of(two), (('cycles', 3), (8, 2), [('cycles', 3)], 1))
            self.assertTrue(one == Limit(form, caps=(8, 2)) and ('cycles', 3) in one and one((0, 4, 0)) is (word == 'first'))

    def test_in_place_with_itself(self):
        one = Limit(('days', 7))
        one &= one
        self.same(one.form, ('first', (('days', 7), ('days', 7))))
        one |= one
        self.same(len(one), 4)

    def test_in_place_by_the_sign(self):
        def joined(other, sign):
            limit = Limit(BOTH)
            if sign == '&':
                limit &= other
            else:
                limit |= other
        for sign in '&|':
            for other in (5, Limit(BOTH, caps=(1, 1)), BOTH):
                self.raises(NotUsable, {'word': 'b', 'at': -1}, joined, other, sign)

    def test_what_is_gone_through_stays(self):
        one = Limit(BOTH)
        seen = []
        for row in one:
            seen.append(row)
            one &= Limit(('cycles', 1))
        self.same(seen, list(BOTH[1]))
        self.same(len(one), 4)

    def test_widened(self):
        limit = Limit(DEEP, caps=(8, 2))
        made = limit + (8, 5, 1)
        self.assertIs(type(made), Limit)
        self.same((made.form, made.caps), (plain.moved(DEEP, (8, 5, 1)), (8, 2)))
        self.same((limit.form, limit.caps), (DEEP, (8, 2)))
        before = limit
        limit += (0, 0, 1)
        self.assertIsNot(limit, before)
        self.same((limit.form, before.form), (plain.moved(DEEP, (0, 0, 1)), DEEP))

    def test_widened_by_no_slack(self):
        for odd in NO_COUNTS + (Limit(BOTH),):
            self.raises(NotUsable, {'word': 'slack', 'at': -1}, lambda: Limit(BOTH) + odd)

    def test_joined_more_often_than_calls_can_be_nested(self):
        one, two = Limit(('days', 9)), Limit(('days', 9))
        for _ in range(1500):
            one &= Limit(('hours', 5))
            two &= Limit(('hours', 5))
        self.same((one == two, len(one), one((5, 0, 9)), one((6, 0, 0))), (True, 1501, False, True))
        self.same(len(one + (1, 0, 0)), 1501)
        two |= Limit(('hours', 5))
        self.same((one == two, Limit(two.form) == two), (False, True))


class TestRead(Case):
    def test_counts(self):
        limit = Limit(BOTH)
        self.same(limit((40, 0, 7)), False)
        self.same(limit((41, 0, 6)), True)
        self.same(limit(counts=(0, 0, 8)), True)
        for form in LIMITS[::4]:
            for counts in product(range(0, 5, 2), repeat=3):
                self.same(Limit(form)(counts), plain.passes(form, counts))

    def test_no_counts(self):
        for odd in NO_COUNTS:
            self.raises(NotUsable, {'word': 'counts', 'at': -1}, Limit(BOTH), odd)

    def test_plain_limits(self):
        for form in LIMITS + [DEEP]:
            self.same(list(Limit(form)), plain.plain_in(form))
            self.same(len(Limit(form)), len(plain.plain_in(form)))
        limit = Limit(DEEP)
        self.same([(one, two) for one in limit for two in limit][:5], [(('hours', 40), row) for row in plain.plain_in(DEEP)])

    def test_contained(self):
        limit = Limit(DEEP)
        for row in (('hours', 40), ('days', 7), ('cycles', 3), ('days', 2)):
            self.same(row in limit, True)
        for odd in ODD + (('days', 40), ('hours', 7), BOTH, DEEP, ['hours', 40], Limit(('days', 7)), limit, object()):
            self.same(odd in limit, False)

    def test_true_is_not_one(self):
        limit = Limit(('first', (('days', 1), ('hours', 2))))
        self.same([('days', 1) in limit, ('days', True) in limit, ['days', 1] in limit], [True, False, False])

    def test_lean(self):
        limit = Limit(BOTH, caps=(5, 2))
        lean = limit.lean()
        self.assertIs(type(lean), Limit)
        self.same((lean.form, lean.caps), (('first', (('days', 7),)), (5, 2)))
        self.same((limit.form, limit.caps), (BOTH, (5, 2)))
        whole = Limit(BOTH, caps=(8, 2))
        self.assertTrue(whole.lean() == whole and whole.lean() is not whole)
        for caps in CAPS:
            for form in LIMITS[::6]:
                lean = Limit(form, caps=caps).lean()
                self.assertTrue(LOOK.alike(form, lean.form, caps) and LOOK.idle(lean.form, caps) == () and lean.caps == caps)


class TestExamples(Case):
    def test_limits(self):
        self.examples("""
    >>> BOTH = ('first', (('hours', 40), ('days', 7)))
    >>> from whichfirst.limitclasses import Limit
    >>> oil, week = Limit(BOTH, caps=(8, 2)), Limit(('days', 7), caps=(8, 2))
    >>> [oil <= week, week <= oil, (oil | week) <= week, oil == week, len(oil & week), oil((41, 0, 6)), list(oil + (8, 0, 1))]
    [True, False, True, False, 3, True, [('hours', 48), ('days', 8)]]
        """)
