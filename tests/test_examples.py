"""All examples of the document, word for word and in its order, with what stands below them."""

from helpers import Case, told_by

EXAMPLES = r"""
    >>> MACHINES = (('lift', ((8, 2),)), ('mill', ((2, 5), (6, 0))))
    >>> PARTS = (('pump', ((0, 'lift'),)), ('saw', ((0, 'mill'), (4, 'lift'))))
    >>> OIL = ('oil', 'pump', 'kept', ('first', (('hours', 40), ('days', 7))), (8, 0, 1))
    >>> SITE = (MACHINES, PARTS, (('clean', 'saw', 'fresh', ('days', 6), (0, 0, 0)), OIL))
    >>> from whichfirst.sitechecker import lets_limit, lets_site
    >>> [lets_limit(OIL[3]), lets_site(SITE)]
    [2, 2]
    >>> lets_limit(('first', (('hours', 40), ('days', 0))))
    raises InvalidPaper(word='number', at=(1,))
    >>> from whichfirst.limitparts import is_passed, is_reached, names_in, widened
    >>> [is_passed(OIL[3], (41, 0, 5)), is_reached(OIL[3], OIL[4], (32, 0, 4)), names_in(OIL[3])]
    [True, True, ('days', 'hours')]
    >>> widened(OIL[3], OIL[4])
    ('first', (('hours', 48), ('days', 8)))
    >>> from whichfirst.siteparts import number_of, parts_at, place_of, use_of
    >>> [place_of(SITE, 'saw', 3), use_of(SITE, 'mill', 9), parts_at(SITE, 'lift', 4), number_of(SITE, 'oil')]
    ['mill', (6, 0), ('pump', 'saw'), 1]
    >>> from whichfirst.sitechanges import exchanged
    >>> exchanged(SITE, 'pump', 'saw', 2)[1]
    (('pump', ((0, 'lift'), (2, 'mill'), (4, 'lift'))), ('saw', ((0, 'mill'), (2, 'lift'))))
    >>> from whichfirst.sitetexts import task_text
    >>> from whichfirst.sitereadings import limit_read, site_read
    >>> [task_text(OIL), limit_read('later(days:3,first(hours:9))')]
    ['task oil pump kept first(hours:40,days:7) 8:0:1', ('later', (('days', 3), ('first', (('hours', 9),))))]
    >>> site_read('machine b 8:2\npart a 1:b')
    raises InvalidText(line=1, field=2)
    >>> from whichfirst.siteclasses import Renamed, Shelved, Site
    >>> site = Site(MACHINES, PARTS, SITE[2])
    >>> [site('saw', 4), list(site.stands(1))[1], Shelved(site, 'saw')('saw', 4), list(Renamed(site, clean='wash')), len(site - 'oil')]
    ['lift', ('saw', 'mill', (6, 0)), None, ['oil', 'wash'], 1]
    >>> from whichfirst.counting import counts_between, passing_day
    >>> [counts_between(SITE, 'saw', 0, 5), passing_day(SITE, 'saw', ('hours', 20), 0)]
    [(28, 7, 5), 5]
    >>> passing_day(SITE, 'saw', ('later', (('hours', 20), ('cycles', 9))), 1)
    9
    >>> from whichfirst.duedays import due_day, early_day, late_day, window_of, windows_of
    >>> [early_day(SITE, 'oil', 0), due_day(SITE, 'oil', 0), late_day(SITE, 'oil', 0), due_day(SITE, 'clean', 6)]
    [4, 5, 6, 12]
    >>> [window_of(SITE, 'oil', 5), window_of(SITE, 'clean', 5), list(windows_of(SITE, 'oil', 9))]
    [(9, 11), None, [(0, 4, 6, 5), (5, 9, 11, 10)]]
    >>> from whichfirst.goingby import are_kept, bases_after, done_on, first_bases, missed_by, story_of
    >>> [first_bases(SITE), done_on(SITE, (0, 0), 3), bases_after(SITE, (0, 0), (6, 11))]
    [(0, 0), ('clean',), (11, 10)]
    >>> [are_kept(SITE, (6, 11, 16), 20), are_kept(SITE, (6, 11, 16, 21), 20), missed_by(SITE, (3, 8), 20)]
    [True, False, (('clean', 14), ('oil', 6))]
    >>> story_of(SITE, (6, 8))
    ((6, 'clean', 0, 6), (6, 'oil', 0, 5), (8, 'clean', 6, 8))
    >>> from whichfirst.dues import Due
    >>> oil, clean = Due(SITE, 'oil', 5), Due(SITE, 'clean', 6)
    >>> [oil.early_on, oil.late_on, oil(8), oil < clean, min([clean, oil]).name, Due.nearest(SITE, (6, 5)) == oil]
    [9, 11, (('hours', 40, 16), ('days', 7, 4)), True, 'oil', True]
    >>> [[row[2] for row in oil(11)], Due.word_for(oil(10)[0][2])]
    [[-8, 1], 'full']
    >>> from whichfirst.sheets import Sheet
    >>> sheet = Sheet(SITE, today=5)
    >>> [sheet.doing(('oil',)), 'oil' in sheet, sheet.bases, [due.name for due in sheet.dues], sheet.overdue]
    [('clean',), False, (0, 5), ['clean', 'oil'], ()]
    >>> from whichfirst.planning import fewest_visits, how_few, lighter_without
    >>> [fewest_visits(SITE, 20), how_few(SITE, 21), how_few(SITE, 22), fewest_visits(SITE, 6)]
    [(6, 11, 16), 3, 4, ()]
    >>> lighter_without(SITE, 17)
    ('oil',)
    >>> HARD = ((('mill', ((2, 0), (20, 0))),), (('saw', ((0, 'mill'),)),), (('edge', 'saw', 'kept', ('hours', 9), (0, 0, 0)),))
    >>> from whichfirst.visitchecker import lets_visits
    >>> [lets_visits(SITE, 20, ('visits', ((6, 'clean'), (11, 'oil'), (16, 'oil')))), lets_visits(HARD, 5, ('missed', ((1, 'edge'),), 'edge'))]
    [3, None]
    >>> lets_visits(SITE, 20, ('visits', ((6, 'oil'), (12, 'clean'))))
    raises InvalidPaper(word='missed', at=1)
    >>> from whichfirst.apartchecker import lets_apart
    >>> from whichfirst.apartness import apart_windows
    >>> [apart_windows(SITE[:2] + ((OIL,),), 20), lets_apart(SITE, 20, (('oil', 0), ('oil', 2)))]
    [(('oil', 0), ('oil', 1), ('oil', 2)), 2]
    >>> TWO = SITE[:2] + ((('belt', 'saw', 'kept', ('days', 12), (0, 0, 0)), ('grease', 'pump', 'kept', ('days', 10), (0, 0, 0))),)
    >>> from whichfirst.freeing import can_do, lets_free
    >>> from whichfirst.freecosts import best_free, early_saves, least_cost
    >>> [can_do(TWO, (0, 0), 10), lets_free(TWO, 20, ((10, ('belt', 'grease')),)), fewest_visits(TWO, 24), early_saves(TWO, 24)]
    [(('belt', 'anew'), ('grease', 'window')), (10, 10), (10, 12, 20), 1]
    >>> [least_cost(TWO, 20, (5, (3, 2))), best_free(TWO, 20, (5, (3, 2)))]
    [10, ((10, ('belt', 'grease')),)]
    >>> from whichfirst.worthchecker import lets_worths
    >>> lets_worths(TWO, 20, (1, (0, 0)), (((10, ('belt', 'grease')),), (((-1, (0, 0)), 1),)))
    1
    >>> from whichfirst.planners import Planner
    >>> planner = Planner(SITE, 20)
    >>> [planner.visits, planner.reasons, planner.last, planner.longer(), planner.upto, planner.shorter(), planner.upto, len(planner)]
    [(6, 11, 16), (('clean', 'oil'), ('oil',), ('oil',)), 21, 21, 22, 21, 21, 3]
    >>> from whichfirst.allruns import are_alike, never_later, parting_counts
    >>> from whichfirst.limitparts import is_passed
    >>> BOTH = ('first', (('hours', 40), ('days', 7)))
    >>> [never_later(BOTH, ('days', 7), (8, 2)), never_later(('days', 7), BOTH, (8, 2)), are_alike(BOTH, ('days', 7), (5, 2))]
    [True, False, True]
    >>> [parting_counts(BOTH, ('days', 7), None), is_passed(BOTH, parting_counts(('days', 7), BOTH, (8, 2)))]
    [None, True]
    >>> from whichfirst.allruns import idle_parts, lean_limit
    >>> [idle_parts(BOTH, (8, 2)), idle_parts(BOTH, (5, 2)), lean_limit(BOTH, (5, 2))]
    [(), ((0,),), ('first', (('days', 7),))]
    >>> idle_parts(('first', (('hours', 9), ('hours', 9), ('later', (('hours', 9), ('days', 2))))), None)
    ((0,), (1,), (2,), (2, 1))
    >>> from whichfirst.limitclasses import Limit
    >>> oil, week = Limit(BOTH, caps=(8, 2)), Limit(('days', 7), caps=(8, 2))
    >>> [oil <= week, week <= oil, (oil | week) <= week, oil == week, len(oil & week), oil((41, 0, 6)), list(oil + (8, 0, 1))]
    [True, False, True, False, 3, True, [('hours', 48), ('days', 8)]]
    >>> from whichfirst.surewindows import apart_runs, run_window, sure_window
    >>> LOW, HIGH = (('lift', ((7, 0),)), ('mill', ((0, 0),))), (('lift', ((8, 2),)), ('mill', ((9, 9),)))
    >>> [run_window(SITE, LOW, 'oil', 0), run_window(SITE, HIGH, 'oil', 0), sure_window(SITE, (LOW, HIGH), 'oil', 1)]
    [(5, 6), (4, 6), (10, 11)]
    >>> SLOW = (('lift', ((6, 0),)), ('mill', ((0, 0),)))
    >>> [sure_window(SITE, (SLOW, HIGH), 'oil', 0), apart_runs(SITE, (SLOW, HIGH), 'oil', 1)]
    [(6, 6), ((12, 14), (9, 11))]
    >>> from whichfirst.surevisits import sure_visits
    >>> [len(sure_visits(SITE, (LOW, HIGH), 20)), sure_visits(SITE, (SLOW, HIGH), 12), sure_visits(SITE, (SLOW, HIGH), 11)]
    [3, None, (6,)]
    >>> from whichfirst.surechecker import lets_sure
    >>> lets_sure(SITE, (LOW, HIGH), 20, ('visits', (6, 11, 16), (('oil', 0), ('oil', 1), ('oil', 2))))
    3
    >>> lets_sure(SITE, (SLOW, HIGH), 12, ('never', 'oil', 1))
    >>> from whichfirst.exchanges import all_exchanges, best_exchange, first_late
    >>> [first_late(SITE, (3, 0)), list(all_exchanges(SITE, (3, 0), 0)), best_exchange(SITE, (3, 0), 9)]
    [6, [((), 6), (('pump', 'saw'), 7)], (6, ((), ('pump', 'saw')))]
    >>> from whichfirst.books import Book
    >>> book = Book(SITE)
    >>> [book.passed(((10, 0), (0, 0))), book.day_now, book.days_of('oil'), book.visits_now(20)]
    [5, 1, (4, 4, 5), (5, 10, 15)]
    >>> DAY = ('pass', ((8, 2), (6, 0)))
    >>> [book.do_all(DAY, DAY, DAY), book.can_do(), book.visit('clean', 'oil'), book.bases_now, book.visits_now(20)]
    [3, ('clean', 'oil'), 10, (4, 4), (10, 15)]
    >>> book.renew('clean')
    raises InvalidEvent(event=('anew', ('clean',)), reason='fresh')
    >>> [book.move('pump', 'mill'), book.days_of('oil'), book.table()]
    [10, (10, 10, 12), ['clean      4  10  10 can', 'oil        4  10  12 wait']]
    >>> [book.barred(('done', ('oil',))), book.barred(('anew', ('oil',))), book.keeps_now((10,), 15), book.keeps_now((), 11)]
    ['window', 'base', True, False]
"""


class TestExamples(Case):
    def test_all_in_order(self):
        """What stands below a line is its result; below a line that is an expression stands nothing if it is None."""
        space = {}
        checked = 0
        lines = [line[4:] for line in EXAMPLES.strip('\n').split('\n')]
        for line, below in zip(lines, lines[1:] + ['>>> ']):
            if not line.startswith('>>> '):
                continue
            code = line[4:]
            if not below.startswith('>>> '):
                self.assertEqual(told_by(code, space), below, code)
                checked += 1
            elif is_expression(code):
                self.assertEqual(told_by(code, space), 'None', code)
                checked += 1
            else:
                exec(code, space)
        self.assertGreater(checked, 40)


def is_expression(code):
    try:
        compile(code, 'example', 'eval')
    except SyntaxError:
        return False
    return True
