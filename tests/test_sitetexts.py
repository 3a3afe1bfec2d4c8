"""Limits, tasks and sites as texts ([18])."""

import days
import plain
from helpers import Case
from sites import CLEAN, EMPTY, MOVES, OIL, SITE
from test_kinds import nested
from whichfirst.limitclasses import Limit
from whichfirst.limitparts import widened
from whichfirst.sitechanges import with_limit
from whichfirst.sitetexts import limit_text, site_text, task_text

SITES = [SITE, MOVES] + days.small_sites(60, 18)


def plain_limit(limit):
    word, rest = limit
    return f'{word}:{rest}' if word in plain.NAMES else word + '(' + ','.join(map(plain_limit, rest)) + ')'


def plain_site(site):
    """The lines, written another way."""
    rows = []
    for name, uses in site[0]:
        rows.append(['machine', name, ','.join('%d:%d' % use for use in uses)])
    for name, stays in site[1]:
        rows.append(['part', name, ','.join('%d:%s' % (day, place or '-') for day, place in stays)])
    for name, part, way, limit, slack in site[2]:
        rows.append(['task', name, part, way, plain_limit(limit), '%d:%d:%d' % slack])
    return '\n'.join(' '.join(row) for row in rows)


class TestLimits(Case):
    def test_ordinary(self):
        self.same(limit_text(('days', 7)), 'days:7')
        self.same(limit_text(limit=('hours', 10 ** 59)), 'hours:1' + '0' * 59)
        self.same(limit_text(OIL[3]), 'first(hours:40,days:7)')
        self.same(limit_text(('later', (('days', 3), ('first', (('hours', 9),))))), 'later(days:3,first(hours:9))')
        limit = ('first', (('later', (('days', 3), ('cycles', 1))), ('hours', 2), ('later', (('first', (('days', 1), ('days', 1))),))))
        self.same(limit_text(limit), 'first(later(days:3,cycles:1),hours:2,later(first(days:1,days:1)))')

    def test_all_small_ones(self):
        for limit in plain.limits_to(2, 1, 2) + [task[3] for site in SITES for task in site[2]]:
            self.same(limit_text(limit), plain_limit(limit))

    def test_thirty_within_one_another(self):
        self.same(limit_text(nested(30)), 'later(first(' * 15 + 'days:1' + ')' * 30)

    def test_what_the_package_returns(self):
        self.same(limit_text(widened(nested(3000), (0, 0, 4))), 'later(first(' * 1500 + 'days:5' + ')' * 3000)
        limit = Limit.days(3)
        for _ in range(1200):
            limit |= Limit.hours(4)
        self.same(limit_text(limit.form), 'later(' * 1200 + 'days:3' + ',hours:4)' * 1200)


class TestTasks(Case):
    def test_ordinary(self):
        self.same(task_text(OIL), 'task oil pump kept first(hours:40,days:7) 8:0:1')
        self.same(task_text(task=CLEAN), 'task clean saw fresh days:6 0:0:0')

    def test_of_any_part(self):
        self.same(task_text(('abcdefgh', 'first', 'fresh', ('cycles', 1), (10 ** 59, 0, 3))), 'task abcdefgh first fresh cycles:1 1' + '0' * 59 + ':0:3')


class TestSites(Case):
    def test_ordinary(self):
        self.same(site_text(SITE).split('\n'), [
            'machine lift 8:2', 'machine mill 2:5,6:0', 'part pump 0:lift', 'part saw 0:mill,4:lift',
            'task clean saw fresh days:6 0:0:0', 'task oil pump kept first(hours:40,days:7) 8:0:1',
        ])
        self.same(site_text(site=MOVES[:1] + ((('axle', ((0, None), (5, 'crane'))),), ())).split('\n')[-1], 'part axle 0:-,5:crane')

    def test_empty(self):
        self.same(site_text(EMPTY), '')
        self.same(site_text(((), (('a', ((0, None),)),), ())), 'part a 0:-')

    def test_as_written_another_way(self):
        for site in SITES:
            self.same(site_text(site), plain_site(site))

    def test_what_a_reader_returns(self):
        """Machines, parts and tasks in any order, with names of nothing, and several of one name."""
        site = (SITE[0][::-1] * 2, (('saw', ((0, 'nowhere'), (3, None))), ('pump', ((0, None),))), (OIL, CLEAN, OIL))
        self.same(site_text(site), plain_site(site))

    def test_deep_limits(self):
        site = with_limit(SITE, 'oil', nested(2000), (0, 0, 0))
        self.same(site_text(site).split('\n')[-1], 'task oil pump kept ' + limit_text(nested(2000)) + ' 0:0:0')

    def test_different_sites_have_different_texts(self):
        self.same(len({site_text(site) for site in SITES}), len(set(SITES)))


class TestExamples(Case):
    def test_task(self):
        self.examples("""
    >>> from whichfirst.sitetexts import task_text
    >>> task_text(OIL)
    'task oil pump kept first(hours:40,days:7) 8:0:1'
        """)
