"""The form that the package keeps to: a small part of Python. Each rule here is one that a tree of the code shows."""

import ast
import builtins
import io
import pathlib
import re
import tokenize
import unittest

FOLDER = pathlib.Path(__file__).resolve().parent.parent / 'whichfirst'
TEXTS = {path.name: path.read_text(encoding='utf-8') for path in sorted(FOLDER.glob('*.py'))}
TREES = {name: ast.parse(text) for name, text in TEXTS.items()}

BUILTINS = set((
    'len range enumerate zip min max sum abs sorted reversed int str bool list tuple dict set isinstance ord repr any all '
    'divmod super property staticmethod classmethod iter ValueError NotImplemented'
).split())

METHODS = set((
    'append clear copy count endswith extend find get index insert isalnum isalpha isdigit islower isspace isupper items join '
    'keys ljust lower lstrip partition pop remove replace reverse rfind rjust rpartition rsplit rstrip setdefault split splitlines '
    'startswith strip update upper values zfill bit_length'
).split())

DUNDERS = set((
    '__init__ __eq__ __repr__ __str__ __len__ __call__ __iter__ __contains__ __getitem__ __setitem__ __lt__ __le__ __gt__ __ge__ '
    '__add__ __sub__ __and__ __or__ __iand__ __ior__ __iadd__'
).split())

NODES = (
    'Module Expr Constant Import ImportFrom alias FunctionDef arguments arg Return Assign AugAssign For While If Raise Try '
    'ExceptHandler Pass Break Continue Delete ClassDef Name Load Store Del Attribute Subscript Slice Call keyword Starred Tuple List '
    'Dict Lambda IfExp BoolOp And Or UnaryOp Not USub BinOp Add Sub Mult FloorDiv Mod Compare Eq NotEq Lt LtE Gt GtE Is IsNot In '
    'NotIn ListComp DictComp SetComp comprehension JoinedStr FormattedValue Yield'
).split()

NEVER = set((
    'register mro elements open input law version_info with_traceback add_note attrgetter breakpoint builtins compile copyright '
    'credits delattr dir eval exec exit gc globals help id importlib license locals methodcaller os quit setattr type vars hash next '
    'map round filter format object'
).split())

BARRED = (
    'type typing typing_extensions enum Enum IntEnum StrEnum Flag IntFlag Generic Protocol ABC ABCMeta namedtuple NamedTuple '
    'TypedDict TYPE_CHECKING abstractmethod'
).split()


def nodes(kind):
    """All nodes of a kind, each with its file, its parent and its grandparent."""
    for name, tree in TREES.items():
        parents = {}
        for node in ast.walk(tree):
            for child in ast.iter_child_nodes(node):
                parents[child] = node
        for node in ast.walk(tree):
            if isinstance(node, kind):
                parent = parents.get(node)
                yield f'{name}:{getattr(node, "lineno", 0)}', node, parent, parents.get(parent)


def called(node):
    """The name of a function that is called by its bare name; None otherwise."""
    return node.func.id if isinstance(node, ast.Call) and isinstance(node.func, ast.Name) else None


OWN_METHODS = {node.name for _, node, parent, _ in nodes(ast.FunctionDef) if isinstance(parent, ast.ClassDef)}
OWN_FUNCTIONS = {node.name for _, node, parent, _ in nodes(ast.FunctionDef) if isinstance(parent, ast.Module)}
GENERATORS = {
    node.name for _, node, _, _ in nodes(ast.FunctionDef) if any(isinstance(part, ast.Yield) for part in ast.walk(node))
}
AT_ONCE = {'list', 'tuple', 'dict', 'sorted', 'sum', 'any', 'all', 'enumerate', 'zip', 'min', 'max'}


class TestRules(unittest.TestCase):
    def test_only_plain_parts(self):
        for where, node, _, _ in nodes(ast.AST):
            self.assertIn(type(node).__name__, NODES, where)

    def test_builtins(self):
        for where, node, _, _ in nodes(ast.Name):
            if hasattr(builtins, node.id):
                self.assertIn(node.id, BUILTINS, where)

    def test_names(self):
        for where, node, _, _ in nodes((ast.Name, ast.arg, ast.FunctionDef, ast.ClassDef, ast.keyword)):
            name = getattr(node, 'id', None) or getattr(node, 'name', None) or getattr(node, 'arg', None)
            if name is not None:
                self.assertNotIn(name, NEVER, where)
                self.assertTrue(name in DUNDERS or not name.startswith('__'), where)
                self.assertTrue(re.fullmatch('[A-Za-z_][A-Za-z0-9_]*', name), where)
                self.assertFalse(re.match('_(wall|pe_|dcw_|enum_|cm_|twin_re_|lay_|law_|stub_|sre|cold|record|outside)', name), where)

    def test_attributes(self):
        """What is read of an object is assigned by some class; what is called is a method of the package or a plain one."""
        known = {node.attr for _, node, _, _ in nodes(ast.Attribute) if isinstance(node.ctx, ast.Store)} | OWN_METHODS
        known |= {target.id for _, node, parent, _ in nodes(ast.Assign) if isinstance(parent, ast.ClassDef) for target in node.targets}
        for where, node, parent, _ in nodes(ast.Attribute):
            if isinstance(parent, ast.FunctionDef):
                self.assertEqual(node.attr, 'setter', where)
            elif isinstance(parent, ast.Call) and parent.func is node:
                self.assertTrue(node.attr in METHODS | OWN_METHODS or node.attr == '__init__', (where, node.attr))
            else:
                self.assertIn(node.attr, known, where)

    def test_module_level(self):
        for name, tree in TREES.items():
            for node in tree.body[1:]:
                self.assertIsInstance(node, (ast.ImportFrom, ast.FunctionDef, ast.ClassDef, ast.Assign), name)
                if isinstance(node, ast.Assign):
                    self.assertEqual(len(node.targets), 1, name)
                    for part in ast.walk(node.value):
                        self.assertNotIsInstance(part, (ast.Call, ast.ListComp, ast.Lambda), name)

    def test_imports_of_the_package_alone(self):
        for where, node, _, _ in nodes(ast.ImportFrom):
            self.assertTrue(node.level == 0 and node.module.startswith('whichfirst.'), where)
            self.assertTrue(all(name.asname is None and name.name != '*' for name in node.names), where)

    def test_decorators(self):
        for where, node, parent, _ in nodes(ast.FunctionDef):
            for told in node.decorator_list:
                self.assertIsInstance(parent, ast.ClassDef, where)
                word = told.attr if isinstance(told, ast.Attribute) else told.id
                self.assertIn(word, ('property', 'setter', 'staticmethod', 'classmethod'), where)

    def test_methods_with_two_underscores(self):
        for where, node, parent, _ in nodes(ast.FunctionDef):
            if node.name.startswith('__'):
                self.assertIsInstance(parent, ast.ClassDef, where)
                self.assertIn(node.name, DUNDERS, where)
                if node.name in ('__len__', '__str__', '__repr__', '__eq__'):
                    self.assertIsInstance(node.body[-1], ast.Return, where)
        for where, node, parent, _ in nodes(ast.FunctionDef):
            if node.name == '__iter__':
                told = [part for part in node.body if not isinstance(part, ast.Expr)]
                self.assertRegex(ast.unparse(told[0]), r'^return iter\(self\.[a-z_]+\)$', where)
            for part in ast.walk(node):
                if node.name == '__str__' and isinstance(part, ast.Return):
                    self.assertTrue(isinstance(part.value, (ast.JoinedStr, ast.Constant)) or '.join(' in ast.unparse(part), where)
                if node.name == '__len__' and isinstance(part, ast.Return):
                    self.assertEqual(called(part.value), 'len', where)

    def test_loops_in_builtins_go_over_lists(self):
        """Some classes compare, so `any`, `all`, `sorted` and the like take lists, and sort what is plain or in a set."""
        for where, node, _, _ in nodes(ast.Call):
            if called(node) in ('sorted', 'min', 'max'):
                plain = ('set', 'len', 'range', 'int')
                self.assertTrue(any(called(part) in plain or isinstance(part, ast.Constant) for part in node.args), where)
            if called(node) == 'set' and node.args:
                self.assertNotIn(called(node.args[0]), GENERATORS | {'zip', 'range', 'enumerate', 'reversed', 'set'}, where)

    def test_sets_stand_where_they_are_sorted_or_counted(self):
        for where, node, parent, _ in nodes((ast.Call, ast.SetComp)):
            if isinstance(node, ast.SetComp) or called(node) == 'set':
                self.assertTrue(called(parent) in ('sorted', 'len'), where)

    def test_what_is_iterated_at_once(self):
        """zip, range, views and generators stand in a loop or in a builtin that goes over them."""
        for where, node, parent, _ in nodes(ast.Call):
            attr = node.func.attr if isinstance(node.func, ast.Attribute) else None
            is_generator = called(node) in GENERATORS or attr in GENERATORS
            if called(node) in ('zip', 'range', 'enumerate', 'reversed') or attr in ('items', 'keys', 'values') or is_generator:
                in_loop = isinstance(parent, (ast.For, ast.comprehension)) and parent.iter is node
                self.assertTrue(in_loop or called(parent) in AT_ONCE | {'reversed'}, where)

    def test_errors(self):
        own = {node.name for node in TREES['errors.py'].body if isinstance(node, ast.ClassDef)}
        for where, node, _, _ in nodes(ast.Raise):
            self.assertTrue(node.exc is None or called(node.exc) in own, where)
        for where, node, _, _ in nodes(ast.ExceptHandler):
            told = node.type.elts if isinstance(node.type, ast.Tuple) else [node.type]
            self.assertTrue(all(part.id in own for part in told), where)

    def test_finally(self):
        for where, node, _, _ in nodes(ast.Try):
            for part in node.finalbody:
                self.assertIsInstance(part, ast.Assign, where)
                self.assertIsInstance(part.value, (ast.Name, ast.Attribute), where)

    def test_is(self):
        for where, node, _, _ in nodes(ast.Compare):
            for sign, other in zip(node.ops, node.comparators):
                if isinstance(sign, (ast.Is, ast.IsNot)):
                    self.assertTrue(isinstance(other, ast.Constant) and other.value in (None, True, False), where)

    def test_strings_and_numbers(self):
        for where, node, parent, _ in nodes(ast.Constant):
            self.assertNotIsInstance(node.value, (float, complex, bytes), where)
            if isinstance(node.value, str):
                self.assertNotIn('%', node.value, where)
                self.assertFalse(node.value.startswith('__') and node.value.endswith('__'), where)
        for where, node, _, _ in nodes(ast.FormattedValue):
            self.assertFalse(any(isinstance(part, ast.Constant) and isinstance(part.value, str) for part in ast.walk(node.value)), where)

    def test_words(self):
        for name, text in TEXTS.items():
            for token in tokenize.generate_tokens(io.StringIO(text).readline):
                if token.type == tokenize.NAME or token.type == tokenize.STRING and not token.string.startswith('"""'):
                    self.assertFalse(set(re.findall('[A-Za-z_]+', token.string)) & set(BARRED), (name, token.start))
                if token.type == tokenize.STRING:
                    self.assertFalse(re.search(r'\\[^nt\\"\']', token.string), (name, token.start))
            self.assertFalse('\t' in text or '_wall' in text or '(type)' in text or 'Meta' in text or 'metaclass=' in text, name)
            self.assertNotIn('import whichfirst', text)

    def test_comprehensions_stand_in_functions(self):
        for name, tree in TREES.items():
            inside = {part for node in ast.walk(tree) if isinstance(node, ast.FunctionDef) for part in ast.walk(node)}
            for node in ast.walk(tree):
                if isinstance(node, (ast.ListComp, ast.DictComp, ast.SetComp, ast.Lambda)):
                    self.assertIn(node, inside, name)

    def test_each_name_is_bound_once(self):
        for name, tree in TREES.items():
            bound = []
            for node in tree.body:
                if isinstance(node, ast.ImportFrom):
                    bound += [told.name for told in node.names]
                elif isinstance(node, (ast.FunctionDef, ast.ClassDef)):
                    bound.append(node.name)
                elif isinstance(node, ast.Assign):
                    bound += [target.id for target in node.targets]
            self.assertEqual(len(bound), len(set(bound)), name)

    def test_generators_have_names_of_their_own(self):
        names = [node.name for _, node, _, _ in nodes(ast.FunctionDef)]
        for name in GENERATORS:
            self.assertEqual(names.count(name), 1, name)
            self.assertNotIn(name, METHODS)

    def test_nothing_in_a_loop_changes_what_it_goes_over(self):
        changing = {'append', 'extend', 'insert', 'pop', 'remove', 'clear', 'update', 'setdefault', 'reverse'}
        for where, node, _, _ in nodes(ast.For):
            told = {ast.unparse(part) for part in ast.walk(node.iter) if isinstance(part, (ast.Name, ast.Attribute))}
            for part in [inner for row in node.body for inner in ast.walk(row)]:
                if isinstance(part, ast.Call) and isinstance(part.func, ast.Attribute) and part.func.attr in changing:
                    self.assertNotIn(ast.unparse(part.func.value), told, where)
                if isinstance(part, ast.Subscript) and isinstance(part.ctx, (ast.Store, ast.Del)):
                    self.assertNotIn(ast.unparse(part.value), told, where)
