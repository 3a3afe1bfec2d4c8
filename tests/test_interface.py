"""The interface: names, parameters, and in which file and class each thing is defined."""

import ast
import builtins
import importlib
import inspect
import pathlib

from helpers import Case
from sites import OIL, SITE
from whichfirst.siteclasses import Renamed, Shelved, Site

FOLDER = pathlib.Path(__file__).resolve().parent.parent / 'whichfirst'

FUNCTIONS = {
    'kinds': {
        name: 'thing' for name in (
            'is_integer', 'is_number', 'is_name', 'is_counts', 'is_use', 'is_slack', 'is_limit', 'is_machines', 'is_stays',
            'is_task',
        )
    },
    'limitparts': {
        'is_passed': 'limit, counts', 'is_reached': 'limit, slack, counts', 'widened': 'limit, slack', 'names_in': 'limit',
        'parts_of': 'limit', 'part_at': 'limit, path', 'with_part': 'limit, path, other', 'without_part': 'limit, path',
    },
    'allruns': {
        'never_later': 'limit, other, caps', 'are_alike': 'limit, other, caps', 'parting_counts': 'limit, other, caps',
        'idle_parts': 'limit, caps', 'lean_limit': 'limit, caps',
    },
    'boundchecker': {'lets_bounds': 'site, thing', 'lets_run': 'site, bounds, thing'},
    'sitechecker': {'lets_limit': 'thing', 'lets_site': 'thing'},
    'siteparts': {
        'place_of': 'site, part, day', 'use_of': 'site, machine, day', 'parts_at': 'site, place, day', 'tasks_of': 'site, part',
        'part_of': 'site, name', 'number_of': 'site, name',
    },
    'counting': {'counts_between': 'site, part, first, last', 'passing_day': 'site, part, limit, base'},
    'duedays': {
        'due_day': 'site, name, base', 'late_day': 'site, name, base', 'early_day': 'site, name, base',
        'window_of': 'site, name, base', 'windows_of': 'site, name, upto',
    },
    'goingby': {
        'first_bases': 'site', 'done_on': 'site, bases, day', 'bases_after': 'site, bases, days', 'missed_by': 'site, days, upto',
        'are_kept': 'site, days, upto', 'story_of': 'site, days',
    },
    'sitechanges': {
        'with_stay': 'site, part, day, place', 'exchanged': 'site, part, other, day', 'with_task': 'site, task',
        'without_task': 'site, name', 'with_limit': 'site, name, limit, slack', 'with_way': 'site, name, way',
        'with_uses': 'site, machine, uses',
    },
    'planning': {'fewest_visits': 'site, upto', 'how_few': 'site, upto', 'lighter_without': 'site, upto'},
    'apartness': {'apart_windows': 'site, upto'},
    'visitchecker': {'lets_visits': 'site, upto, thing'},
    'apartchecker': {'lets_apart': 'site, upto, thing'},
    'freeing': {'can_do': 'site, bases, day', 'lets_free': 'site, upto, thing', 'cost_of': 'site, upto, free, prices'},
    'freecosts': {'least_cost': 'site, upto, prices', 'best_free': 'site, upto, prices', 'early_saves': 'site, upto'},
    'exchanges': {
        'first_late': 'site, bases', 'all_exchanges': 'site, bases, day', 'best_exchange': 'site, bases, day',
    },
    'sitetexts': {'limit_text': 'limit', 'task_text': 'task', 'site_text': 'site'},
    'eventtexts': {'event_line': 'event', 'log_lines': 'log'},
    'replaying': {'is_log': 'thing', 'replayed': 'log'},
    'surewindows': {
        'run_window': 'site, run, name, k', 'sure_window': 'site, bounds, name, k', 'apart_runs': 'site, bounds, name, k',
    },
    'surevisits': {'sure_visits': 'site, bounds, upto'},
    'surepapers': {'sure_paper': 'site, bounds, upto'},
    'surechecker': {'lets_sure': 'site, bounds, upto, thing'},
    'visitpapers': {'visit_paper': 'site, upto'},
    'worthpapers': {'worth_paper': 'site, upto, prices'},
    'worthchecker': {'lets_worths': 'site, upto, prices, thing'},
    'sitereadings': {'limit_read': 'text, *, line=0, field=0', 'task_read': 'text, *, line=0, field=0', 'site_read': 'text'},
    'eventreadings': {'read_event': 'text', 'read_log': 'lines'},
}

GENERATORS = ('windows_of', 'all_exchanges')

LIMIT = OIL[3]
RUN = tuple((name, uses[:1]) for name, uses in SITE[0])
SITE_RUN = tuple((name, tuple((hours + 1, cycles) for hours, cycles in uses)) for name, uses in RUN)

# Arguments of each function, in order; lists where any value may stand.
SAMPLES = {
    'is_integer': (5,), 'is_number': ([5],), 'is_name': ('oil',), 'is_counts': ([0, 0, 0],), 'is_use': ((8, 2),),
    'is_slack': ((0, 0, 0),), 'is_limit': (('first', [['days', 1]]),), 'is_machines': (SITE[0],), 'is_stays': (((0, None),),),
    'is_task': (OIL,), 'is_passed': (LIMIT, (41, 0, 0)), 'is_reached': (LIMIT, (8, 0, 1), (32, 0, 0)),
    'widened': (LIMIT, (8, 0, 1)), 'names_in': (LIMIT,), 'parts_of': (LIMIT,), 'part_at': (LIMIT, (1,)),
    'with_part': (LIMIT, (1,), ('days', 9)), 'without_part': (LIMIT, (1,)), 'never_later': (LIMIT, ('days', 7), (8, 2)),
    'are_alike': (LIMIT, ('days', 7), None), 'parting_counts': (('days', 7), LIMIT, (8, 2)), 'idle_parts': (LIMIT, (5, 2)),
    'lean_limit': (LIMIT, (5, 2)), 'lets_bounds': (SITE, (RUN, RUN)), 'lets_run': (SITE, (RUN, RUN), RUN),
    'lets_limit': (LIMIT,), 'lets_site': (SITE,), 'place_of': (SITE, 'saw', 3), 'use_of': (SITE, 'mill', 0),
    'parts_at': (SITE, 'lift', 4), 'tasks_of': (SITE, 'saw'), 'part_of': (SITE, 'oil'), 'number_of': (SITE, 'oil'),
    'counts_between': (SITE, 'saw', 2, 7), 'passing_day': (SITE, 'saw', LIMIT, 1), 'due_day': (SITE, 'oil', 1),
    'late_day': (SITE, 'oil', 2), 'early_day': (SITE, 'oil', 3), 'window_of': (SITE, 'oil', 4), 'windows_of': (SITE, 'oil', 14),
    'first_bases': (SITE,), 'done_on': (SITE, (0, 5), 9), 'bases_after': (SITE, (0, 5), (9, 12)),
    'missed_by': (SITE, (3, 8), 20), 'are_kept': (SITE, (6, 11), 15), 'story_of': (SITE, (6, 8)),
    'with_stay': (SITE, 'saw', 2, None), 'exchanged': (SITE, 'pump', 'saw', 2), 'with_task': (SITE, ('a',) + OIL[1:]),
    'without_task': (SITE, 'oil'), 'with_limit': (SITE, 'oil', ('days', 9), (0, 0, 1)), 'with_way': (SITE, 'oil', 'fresh'),
    'with_uses': (SITE, 'mill', ((1, 1),)), 'fewest_visits': (SITE, 20), 'how_few': (SITE, 20), 'lighter_without': (SITE, 17),
    'apart_windows': (SITE[:2] + ((OIL,),), 20), 'first_late': (SITE, (3, 0)), 'all_exchanges': (SITE, (3, 0), 0),
    'best_exchange': (SITE, (3, 0), 9), 'limit_text': (LIMIT,), 'task_text': (OIL,), 'site_text': (SITE,),
    'event_line': (('move', 'saw', None),), 'log_lines': ((('book', SITE), ('drop', 'oil')),),
    'is_log': ([('book', [SITE])],), 'replayed': ((('book', SITE), ('drop', 'oil')),), 'run_window': (SITE, RUN, 'oil', 1),
    'sure_window': (SITE, (RUN, SITE_RUN), 'oil', 1), 'apart_runs': (SITE, (RUN, RUN), 'oil', 2),
    'sure_visits': (SITE, (RUN, SITE_RUN), 20), 'sure_paper': (SITE, (RUN, SITE_RUN), 20),
    'lets_sure': (SITE, (RUN, SITE_RUN), 3, ('visits', (), ())),
    'lets_visits': (SITE, 7, ('visits', ((6, 'oil'),))), 'lets_apart': (SITE, 20, (('oil', 0), ('oil', 2))),
    'can_do': (SITE, (0, 0), 3), 'lets_free': (SITE, 9, ((3, ('oil',)), (6, ('clean',)))),
    'cost_of': (SITE, 9, ((3, ('oil',)), (6, ('clean',))), (5, (3, 2))), 'least_cost': (SITE, 20, (5, (3, 2))),
    'best_free': (SITE, 20, (5, (3, 2))), 'early_saves': (SITE, 20), 'visit_paper': (SITE, 20),
    'worth_paper': (SITE, 12, (5, (3, 2))), 'lets_worths': (SITE, 6, (5, (3, 2)), ((), ())), 'limit_read': ('first(days:1)',),
    'task_read': ('task oil pump kept days:7 0:0:1',), 'site_read': ('machine b 8:2',), 'read_event': ('drop oil',),
    'read_log': (['book 1', 'machine b 8:2', 'pass 1:1'],),
}

# The parameters of a class, and its methods and properties; those of an operator have free names.
CLASSES = {
    'limitclasses': {
        'Limit': ('limit, *, caps=None', {
            'form': None, 'caps': None, 'hours': 'n', 'cycles': 'n', 'days': 'n', 'lean': 'self', '__call__': 'self, counts',
            '__le__': '', '__ge__': '', '__eq__': '', '__and__': '', '__or__': '', '__iand__': '', '__ior__': '', '__add__': '',
            '__iter__': '', '__len__': '', '__contains__': '',
        }),
    },
    'dues': {
        'Due': ('site, name, base', {
            'name': None, 'base': None, 'early_on': None, 'due_on': None, 'late_on': None, '__call__': 'self, day',
            'nearest': 'site, bases', 'word_for': 'left', '__lt__': '', '__le__': '', '__eq__': '',
        }),
    },
    'sheets': {
        'Sheet': ('site, *, today=0', {
            'today': None, 'bases': None, 'dues': None, 'overdue': None, 'doing': 'self, names', '__iadd__': '',
            '__contains__': '', '__iter__': '', '__len__': '', '__eq__': '',
        }),
    },
    'planners': {
        'Planner': ('site, upto', {
            'site': None, 'upto': None, 'visits': None, 'reasons': None, 'last': None, 'longer': 'self', 'shorter': 'self',
            'copy': 'self', '__len__': '', '__getitem__': '', '__iter__': '', '__contains__': '', '__eq__': '',
        }),
    },
    'books': {
        'Book': ('site', {
            'MOST': '', 'TASKS': '', 'site_now': None, 'day_now': None, 'bases_now': None, 'passed': 'self, uses',
            'visit': 'self, *names', 'renew': 'self, *names', 'move': 'self, part, place', 'expect': 'self, machine, use',
            'add_task': 'self, task', 'drop_task': 'self, name', 'set_limit': 'self, name, limit, slack', 'go': 'self, event',
            '__call__': 'self, event', 'tried': 'self, *events', 'undo': 'self', 'do_all': 'self, *events, keep=False',
            'tally': 'self', 'table': 'self', 'barred': 'self, event', 'can_do': 'self', 'missed_now': 'self',
            'days_of': 'self, name', 'visits_now': 'self, upto', 'keeps_now': 'self, days, upto', 'exchange_now': 'self',
            'log': 'self', '__getitem__': '', '__contains__': '', '__iter__': '', '__len__': '', '__eq__': '', '__str__': '',
        }),
    },
    'siteclasses': {
        'Site': ('machines=(), parts=(), tasks=()', {
            'machines': None, 'parts': None, 'tasks': None, 'form': None, 'moved': 'self, part, day, place',
            'swapped': 'self, part, other, day', 'limited': 'self, name, limit, slack', 'turned': 'self, name, way',
            'used': 'self, machine, uses', 'stands': 'self, day', 'parsed': 'text', 'plain': 'use, limits', '__getitem__': '',
            '__contains__': '', '__len__': '', '__iter__': '', '__eq__': '', '__str__': '', '__call__': 'self, part, day',
            '__add__': '', '__sub__': '',
        }),
        'Shelved': ('site, *names', {'source': None}),
        'Renamed': ('site, **names', {'source': None}),
    },
    'desk': {'Desk': ('', {'say': 'self, row', 'tally': 'self'})},
}


def words_of(thing):
    return str(inspect.signature(thing))[1:-1]


class TestInterface(Case):
    def test_functions(self):
        for module, functions in FUNCTIONS.items():
            for name, words in functions.items():
                thing = getattr(importlib.import_module('whichfirst.' + module), name)
                self.assertEqual(words_of(thing), words, name)
                self.assertEqual(thing.__module__, 'whichfirst.' + module)
                self.assertEqual(inspect.isgeneratorfunction(thing), name in GENERATORS)

    def test_by_position_and_by_name_and_nothing_changes(self):
        for module, functions in FUNCTIONS.items():
            for name, words in functions.items():
                call = getattr(importlib.import_module('whichfirst.' + module), name)
                args = SAMPLES[name]
                before = repr(args)
                told = [call(*args), call(**dict(zip(words.split(', '), args))), call(*args)]
                self.assertFalse(isinstance(told[0], list) and told[0] is told[2])
                if name in GENERATORS:
                    told = [list(rows) for rows in told]
                elif name == 'replayed':
                    told = [book.log() for book in told]
                self.same(told[1], told[0])
                self.same(told[2], told[0])
                self.assertEqual(repr(args), before)

    def test_classes(self):
        for module, classes in CLASSES.items():
            for name, (words, members) in classes.items():
                thing = getattr(importlib.import_module('whichfirst.' + module), name)
                self.assertEqual(words_of(thing), words, name)
                self.assertEqual(thing.__module__, 'whichfirst.' + module)
                for member, told in members.items():
                    self.assertIn(member, vars(thing))
                    if told is None:
                        self.assertIsInstance(vars(thing)[member], property)
                    elif told:
                        self.assertEqual(words_of(getattr(thing, member)), told, member)
                    self.assertEqual(inspect.isgeneratorfunction(getattr(thing, member)), member == 'stands')

    def test_static_and_class_methods(self):
        kinds = {staticmethod: set(), classmethod: set()}
        for module, classes in CLASSES.items():
            for name in classes:
                thing = getattr(importlib.import_module('whichfirst.' + module), name)
                for member, value in vars(thing).items():
                    if type(value) in kinds:
                        kinds[type(value)].add(f'{name}.{member}')
        self.assertEqual(kinds[staticmethod], {'Due.word_for', 'Site.plain'})
        self.assertEqual(kinds[classmethod], {'Due.nearest', 'Limit.hours', 'Limit.cycles', 'Limit.days', 'Site.parsed'})

    def test_derived_classes(self):
        self.assertEqual((Shelved.__bases__, Renamed.__bases__, Site.__bases__), ((Site,), (Site,), (object,)))


class TestFiles(Case):
    """The rules of the language that can be counted."""

    def test_the_folder_holds_modules_only(self):
        names = sorted(path.name for path in FOLDER.iterdir() if path.name != '__pycache__')
        self.assertIn('__init__.py', names)
        self.assertTrue(all(name.endswith('.py') for name in names))
        self.assertLessEqual(len(names), 100)

    def test_characters_and_sizes(self):
        for path in FOLDER.glob('*.py'):
            text = path.read_text(encoding='utf-8')
            lines = text.split('\n')
            self.assertTrue(all(char == '\n' or ' ' <= char <= '~' for char in text), path)
            self.assertLessEqual(len(lines), 399, path)
            self.assertLessEqual(max(len(line) for line in lines), 120, path)
            for node in ast.walk(ast.parse(text)):
                if isinstance(node, ast.FunctionDef):
                    self.assertLessEqual(node.end_lineno - node.lineno + 1, 40, (path, node.name))

    def test_imports(self):
        """Each name is imported from the file that defines it, and no file imports itself by others."""
        imports = {}
        for path in FOLDER.glob('*.py'):
            imports[path.stem] = found = set()
            for node in ast.walk(ast.parse(path.read_text(encoding='utf-8'))):
                self.assertNotIsInstance(node, ast.Import, path)
                if isinstance(node, ast.ImportFrom) and node.module.startswith('whichfirst.'):
                    source = node.module.split('.')[1]
                    found.add(source)
                    self.assertTrue({name.name for name in node.names} <= bound_in(source), (path, node.module))
        for name in imports:
            behind, new = set(), [name]
            while new:
                for other in imports[new.pop()] - behind:
                    behind.add(other)
                    new.append(other)
            self.assertNotIn(name, behind)

    def test_names_mean_one_thing(self):
        """No parameter or variable has the name of a builtin, or of an import or class of its file."""
        for path in FOLDER.glob('*.py'):
            tree = ast.parse(path.read_text(encoding='utf-8'))
            taken = {name for name in vars(builtins) if name.islower()}
            for node in tree.body:
                if isinstance(node, ast.ImportFrom):
                    taken |= {name.name for name in node.names}
                elif isinstance(node, ast.ClassDef):
                    taken.add(node.name)
            for node in ast.walk(tree):
                if isinstance(node, ast.Name) and isinstance(node.ctx, ast.Store):
                    self.assertNotIn(node.id, taken, path)
                elif isinstance(node, ast.arg):
                    self.assertNotIn(node.arg, taken, path)

    def test_every_import_is_used(self):
        for path in FOLDER.glob('*.py'):
            tree = ast.parse(path.read_text(encoding='utf-8'))
            used = {node.id for node in ast.walk(tree) if isinstance(node, ast.Name)}
            for node in ast.walk(tree):
                if isinstance(node, ast.ImportFrom):
                    self.assertTrue({name.name for name in node.names} <= used, path)


IN_PLACE = ('__iand__', '__ior__', '__iadd__')


class TestOperators(Case):
    """What makes, compares, joins or reads an object changes none by another method."""

    def test_no_changing_method_is_called(self):
        seen = 0
        for path in FOLDER.glob('*.py'):
            for node in ast.walk(ast.parse(path.read_text(encoding='utf-8'))):
                if isinstance(node, ast.ClassDef):
                    methods = [method for method in node.body if isinstance(method, ast.FunctionDef)]
                    changing = changing_in(methods)
                    for method in methods:
                        if is_still(method):
                            seen += 1
                            self.assertFalse(changes_itself(method) and method.name != '__init__', (path, method.name))
                            self.assertFalse(calls_of(method) & changing, (path, method.name))
        self.assertGreater(seen, 10)


def is_still(method):
    """Whether a method is a maker, an operator or a property that is read."""
    if [item for item in method.decorator_list if isinstance(item, ast.Name) and item.id == 'property']:
        return True
    return method.name.startswith('__') and method.name not in IN_PLACE + ('__call__',)


def changes_itself(method):
    own = method.args.args[0].arg if method.args.args else None
    return any(
        isinstance(node, ast.Attribute) and isinstance(node.ctx, ast.Store) and getattr(node.value, 'id', None) == own
        for node in ast.walk(method)
    )


def calls_of(method):
    """The names of all methods that a method calls, of whatever object."""
    calls = [node.func for node in ast.walk(method) if isinstance(node, ast.Call)]
    return {call.attr for call in calls if isinstance(call, ast.Attribute)}


def changing_in(methods):
    """The names of the methods, but for makers, that change their object, themselves or by others."""
    found = {method.name for method in methods if changes_itself(method) and method.name != '__init__'}
    more = True
    while more:
        more = {method.name for method in methods if calls_of(method) & found} - found
        found |= more
    return found


def bound_in(module):
    """The names that a module defines itself."""
    found = set()
    for node in ast.parse((FOLDER / (module + '.py')).read_text(encoding='utf-8')).body:
        if isinstance(node, (ast.FunctionDef, ast.ClassDef)):
            found.add(node.name)
        elif isinstance(node, ast.Assign):
            found |= {target.id for target in node.targets}
    return found
