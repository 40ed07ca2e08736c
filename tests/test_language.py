"""What can be seen of the rules of LANGUAGE.md in the files of the package; some are checked more narrowly."""

import ast
import builtins
import pathlib
import re
import unittest

PACKAGE = pathlib.Path(__file__).resolve().parent.parent / 'mostcalls'
FILES = sorted(PACKAGE.glob('*.py'))
LIBRARY = {'heapq': {'heappush', 'heappop', 'heapify', 'heapreplace', 'heappushpop'},
           'math': {'gcd', 'lcm', 'isqrt', 'comb', 'perm', 'factorial'}}
BUILTINS = set('''len range enumerate zip min max sum abs sorted reversed int str bool list tuple dict set frozenset
    isinstance ord repr any all divmod iter next map super property staticmethod classmethod NotImplemented Exception
    ValueError TypeError KeyError IndexError LookupError ZeroDivisionError ArithmeticError OverflowError RuntimeError
    NotImplementedError StopIteration'''.split())
DUNDERS = set('''__init__ __eq__ __repr__ __str__ __len__ __enter__ __exit__ __call__ __iter__ __lt__ __le__ __gt__ __ge__
    __ne__ __add__ __sub__ __mul__ __floordiv__ __mod__ __pow__ __and__ __or__ __xor__ __lshift__ __rshift__ __neg__
    __pos__ __invert__ __abs__ __bool__ __contains__ __getitem__ __setitem__'''.split())
METHODS = set('''append clear copy count endswith extend find get index insert isalnum isalpha isdigit islower isspace
    isupper items join keys ljust lower lstrip partition pop remove replace reverse rfind rjust rpartition rsplit rstrip
    setdefault split splitlines startswith strip update upper values zfill bit_length add discard'''.split())
OWN_ATTRIBUTES = set('count index title find get join lower upper split strip copy add discard'.split())
NEVER = set('register mro elements open input law version_info with_traceback add_note'.split())
NO_NAMES = set('''attrgetter breakpoint builtins compile copyright credits delattr dir eval exec exit gc getattr globals
    hasattr help id importlib license locals methodcaller os quit setattr super type vars sys'''.split())
NO_STRINGS = set('''type typing typing_extensions enum Enum IntEnum StrEnum Flag IntFlag Generic Protocol ABC ABCMeta
    namedtuple NamedTuple TypedDict TYPE_CHECKING abstractmethod'''.split())
BUILTIN_METHODS = {name for kind in (str, int, list, dict, set, bytes, tuple) for name in dir(kind) if name[:2] != '__'}
LITERALS = (ast.Constant, ast.Tuple, ast.List, ast.Dict, ast.UnaryOp, ast.USub, ast.Load, ast.Name)


class File:
    def __init__(self, path):
        self.path = path
        self.name = path.stem
        self.text = path.read_text(encoding='utf-8')
        self.tree = ast.parse(self.text)
        self.nodes = list(ast.walk(self.tree))
        self.classes = [node for node in self.tree.body if isinstance(node, ast.ClassDef)]
        self.functions = [node for node in self.nodes if isinstance(node, ast.FunctionDef)]
        self.imports = [node for node in self.tree.body if isinstance(node, ast.ImportFrom)]
        self.imported = {alias.name for node in self.imports for alias in node.names}
        self.bound = [node.name for node in self.tree.body if isinstance(node, (ast.ClassDef, ast.FunctionDef))]
        self.bound += [node.targets[0].id for node in self.tree.body if isinstance(node, ast.Assign)]

    def docstrings(self):
        for node in self.nodes:
            if isinstance(node, (ast.Module, ast.ClassDef, ast.FunctionDef)) and ast.get_docstring(node) is not None:
                yield node.body[0].value


ALL = [File(path) for path in FILES]


def methods(told):
    return [node for node in told.body if isinstance(node, ast.FunctionDef)]


def is_property(function):
    return any(isinstance(word, ast.Name) and word.id == 'property' for word in function.decorator_list)


def assigned(told):
    """the attributes that a class assigns through self."""
    return {node.attr for node in ast.walk(told) if isinstance(node, ast.Attribute)
            and isinstance(node.ctx, ast.Store) and isinstance(node.value, ast.Name) and node.value.id == 'self'}


class Aliases:
    """which names and fields of a function can tell the same list, as one is assigned the other one."""

    def __init__(self, function):
        self.above = {}
        for node in ast.walk(function):
            if isinstance(node, ast.Assign):
                for target in node.targets:
                    for told in walked_by(node.value):
                        self.above[self.of(target)] = self.of(told)

    def of(self, node):
        text = node if isinstance(node, str) else ast.unparse(node)
        while self.above.get(text, text) != text:
            text = self.above[text]
        return text

    def of_all(self, nodes):
        return {self.of(node) for node in nodes}


def walked_by(node):
    """the names, fields and items that can be what an expression tells; none if it tells something new."""
    if isinstance(node, (ast.Name, ast.Attribute, ast.Subscript)):
        return [] if isinstance(getattr(node, 'slice', None), ast.Slice) else [node]
    if isinstance(node, ast.IfExp):
        return walked_by(node.body) + walked_by(node.orelse)
    if isinstance(node, ast.BoolOp):
        return [told for value in node.values for told in walked_by(value)]
    if isinstance(node, ast.Call):
        if getattr(node.func, 'id', '') in ('enumerate', 'zip', 'reversed'):
            return [told for value in node.args for told in walked_by(value)]
        if getattr(node.func, 'attr', '') in ('items', 'keys', 'values'):
            return walked_by(node.func.value)
    return []


CHANGING = set('append clear extend insert pop remove reverse setdefault update add discard'.split())


def changed_by(node):
    """what a statement or call changes in place."""
    if isinstance(node, ast.Call) and isinstance(node.func, ast.Attribute) and node.func.attr in CHANGING:
        return [node.func.value]
    if isinstance(node, ast.AugAssign):
        return [node.target.value] if isinstance(node.target, ast.Subscript) else [node.target]
    targets = node.targets if isinstance(node, (ast.Assign, ast.Delete)) else []
    return [target.value for target in targets if isinstance(target, ast.Subscript)]


class LanguageTest(unittest.TestCase):
    def found(self, rule, file, node, text=''):
        self.fail(f'{rule}: {file.name}.py, line {getattr(node, "lineno", node)}: {text}')

    def test_files(self):
        for path in PACKAGE.iterdir():
            if path.name != '__pycache__':
                self.assertRegex(path.name, r'^[a-z_][a-z0-9_]*\.py$')
                self.assertNotIn(path.stem, set(dir(builtins)) | NEVER | {'heapq', 'math', 'itertools'})
        self.assertTrue(any(path.name == '__init__.py' for path in FILES))
        self.assertLessEqual(len(FILES), 100)

    def test_sizes_and_characters(self):
        for file in ALL:
            self.assertLessEqual(len(file.text.splitlines()), 399, file.name)
            for number, line in enumerate(file.text.split('\n'), 1):
                if len(line) > 120 or not re.fullmatch('[ -~]*', line) or line != line.rstrip():
                    self.found('L10, L14', file, number, line)
            for function in file.functions:
                if function.end_lineno - function.lineno >= 40:
                    self.found('L10', file, function, function.name)

    def test_imports(self):
        for file in ALL:
            self.assertEqual(len(file.imports), sum(isinstance(node, (ast.Import, ast.ImportFrom)) for node in file.nodes))
            rest = [node for node in file.tree.body if not isinstance(node, ast.Expr)]
            self.assertEqual(rest[:len(file.imports)], file.imports, file.name)
            for node in file.imports:
                self.assertEqual(node.level, 0)
                self.assertFalse([alias.name for alias in node.names if alias.asname])
                names = {alias.name for alias in node.names}
                if node.module in LIBRARY:
                    self.assertLessEqual(names, LIBRARY[node.module])
                else:
                    package, _, module = node.module.partition('.')
                    self.assertEqual(package, 'mostcalls')
                    other = [other for other in ALL if other.name == module]
                    self.assertLessEqual(names, set(other[0].bound), file.name)
            used = {node.id for node in file.nodes if isinstance(node, ast.Name)}
            self.assertLessEqual(file.imported, used, file.name)
            self.assertEqual(len(set(file.bound) | file.imported), len(file.bound) + len(file.imported), file.name)

    def test_no_import_goes_round(self):
        left = {file.name: {node.module.partition('.')[2] for node in file.imports} for file in ALL}
        while left:
            free = [name for name in left if not left[name] & set(left)]
            self.assertTrue(free, left)
            for name in free:
                del left[name]

    def test_module_level(self):
        for file in ALL:
            for node in file.tree.body:
                if isinstance(node, ast.Assign):
                    self.assertEqual(len(node.targets), 1)
                    if not all(isinstance(part, LITERALS) for part in ast.walk(node.value)):
                        self.found('L3', file, node)
                elif isinstance(node, ast.Expr):
                    if node is not file.tree.body[0] or not isinstance(node.value, ast.Constant):
                        self.found('L3', file, node)
                elif not isinstance(node, (ast.ImportFrom, ast.ClassDef, ast.FunctionDef)):
                    self.found('L3', file, node)

    def test_statements_and_expressions(self):
        barred = (ast.Global, ast.AsyncFunctionDef, ast.AsyncFor, ast.AsyncWith, ast.Await, ast.GeneratorExp, ast.Div,
                  ast.MatMult, ast.AnnAssign)
        for file in ALL:
            for node in file.nodes:
                if isinstance(node, barred) or isinstance(node, ast.Constant) and isinstance(node.value, (float, complex)):
                    self.found('L6, L7', file, node, ast.dump(node)[:60])
                if isinstance(node, ast.Compare) and any(isinstance(sign, (ast.Is, ast.IsNot)) for sign in node.ops):
                    sides = [node.left] + node.comparators
                    if not any(isinstance(side, ast.Constant) and side.value in (None, True, False) for side in sides):
                        self.found('L20', file, node)
                if isinstance(node, (ast.For, ast.comprehension)) and isinstance(node.iter, (ast.Set, ast.SetComp)):
                    self.found('L24', file, node.iter)
                if isinstance(node, ast.Call) and isinstance(node.func, ast.Attribute) and node.func.attr == 'sort':
                    self.found('L25', file, node)

    def test_names(self):
        for file in ALL:
            functions = {name for name in file.bound} | file.imported
            for node in file.nodes:
                name = None
                if isinstance(node, ast.Name):
                    name = node.id
                    is_bound = isinstance(node.ctx, ast.Store)
                    if not is_bound and name in dir(builtins) and name not in BUILTINS:
                        self.found('L8', file, node, name)
                elif isinstance(node, ast.arg):
                    name, is_bound = node.arg, True
                elif isinstance(node, (ast.FunctionDef, ast.ClassDef)):
                    name, is_bound = node.name, node in file.tree.body
                elif isinstance(node, ast.Attribute):
                    name, is_bound = node.attr, False
                if name is None:
                    continue
                if name in NEVER or is_bound and (name in dir(builtins) or name in NO_NAMES):
                    self.found('L15, L17', file, node, name)
                if name.startswith('__') and name not in DUNDERS or name.startswith('_wall'):
                    self.found('L8, L12', file, node, name)
                if name == '_' and not is_bound:
                    self.found('L12', file, node, name)
                if isinstance(node, (ast.Name, ast.arg)) and is_bound and name in functions and name not in file.bound:
                    self.found('L15', file, node, name)
            for told in file.functions:
                local = {arg.arg for arg in told.args.args + told.args.kwonlyargs}
                local |= {node.id for node in ast.walk(told) if isinstance(node, ast.Name)
                          and isinstance(node.ctx, ast.Store)}
                clash = local & ({other.name for other in file.classes} | file.imported)
                self.assertFalse(clash, (file.name, told.name))

    def test_strings(self):
        for file in ALL:
            docstrings = list(file.docstrings())
            for node in file.nodes:
                if isinstance(node, ast.Constant) and isinstance(node.value, str):
                    text = node.value
                    if '%' in text or text.endswith(('._', '.__')) or re.fullmatch('__.*__', text):
                        self.found('L27', file, node, text)
                    if node not in docstrings and set(re.findall(r'\w+', text)) & NO_STRINGS:
                        self.found('L17', file, node, text)
            for number, line in enumerate(file.text.split('\n'), 1):
                if re.search(r'\\[^nt\\\'"]', line) or re.search(r'\(type\)|Meta|metaclass=', line):
                    self.found('L17, L27', file, number, line)
                if re.search('dataclass|overload|contextmanager', line):
                    self.found('L17', file, number, line)

    def test_classes(self):
        properties, all_methods = set(), set()
        for told in [told for file in ALL for told in file.classes]:
            properties |= {function.name for function in methods(told) if is_property(function)}
            all_methods |= {function.name for function in methods(told) if not is_property(function)}
        self.assertFalse(properties & all_methods)
        self.assertFalse(properties & BUILTIN_METHODS)
        for file in ALL:
            for told in file.classes:
                self.assertFalse(told.decorator_list)
                names = [function.name for function in methods(told)]
                self.assertEqual(len(names), len(set(names)), told.name)
                self.assertFalse(set(names) & assigned(told), told.name)
                # A property without a setter is assigned nowhere, so no class stores an attribute of its name.
                self.assertFalse(properties & assigned(told), told.name)
                self.assertFalse(assigned(told) & (BUILTIN_METHODS - OWN_ATTRIBUTES), told.name)
                for function in methods(told):
                    if function.name.startswith('__') and function.name not in DUNDERS:
                        self.found('L5', file, function, function.name)
                    if function.name == '__len__':
                        self.assertTrue(ast.unparse(function.body[-1]).startswith('return len('))
                    if function.name == '__iter__':
                        self.assertRegex(ast.unparse(function.body[-1]), r'^return iter\(self\.\w+\)$')
                        self.assertEqual(len(function.body), 1)
                for node in told.body:
                    is_docstring = isinstance(node, ast.Expr) and isinstance(node.value, ast.Constant)
                    if not is_docstring and not isinstance(node, (ast.FunctionDef, ast.Pass)):
                        self.found('L5', file, node)
            for node in file.nodes:
                if isinstance(node, ast.Attribute) and isinstance(node.ctx, ast.Store) and node.attr in properties:
                    self.found('L5', file, node, node.attr)
            for function in file.functions:
                words = [ast.unparse(word) for word in function.decorator_list]
                if words not in ([], ['property'], ['staticmethod'], ['classmethod']):
                    self.found('L4', file, function)

    def test_attributes(self):
        own = {function.name for file in ALL for told in file.classes for function in methods(told)}
        stored = {node.attr for file in ALL for node in file.nodes
                  if isinstance(node, ast.Attribute) and isinstance(node.ctx, ast.Store)}
        for file in ALL:
            for node in file.nodes:
                if isinstance(node, ast.Attribute) and node.attr not in own | stored | METHODS:
                    self.found('L18, L25', file, node, node.attr)

    def test_operators_change_nothing(self):
        names = DUNDERS - {'__init__', '__call__', '__enter__', '__exit__', '__setitem__'}
        for file in ALL:
            for told in file.classes:
                for function in methods(told):
                    if function.name in names or is_property(function):
                        for node in ast.walk(function):
                            if isinstance(node, ast.Attribute) and not isinstance(node.ctx, ast.Load):
                                self.found('L5', file, node, function.name)

    def test_no_name_is_a_method_and_an_attribute(self):
        found, stored = set(), set()
        for told in [told for file in ALL for told in file.classes]:
            found |= {function.name for function in methods(told)}
            stored |= assigned(told)
        self.assertFalse(found & stored)

    def test_exits(self):
        """the rows of __exit__ only assign what there is, and only ask whether it is None."""
        allowed = (ast.FunctionDef, ast.arguments, ast.arg, ast.If, ast.Assign, ast.Attribute, ast.Name, ast.Constant,
                   ast.Compare, ast.Is, ast.IsNot, ast.Load, ast.Store)
        exits = [(file, function) for file in ALL for function in file.functions if function.name == '__exit__']
        self.assertEqual(len(exits), 1)
        for file, function in exits:
            self.assertEqual(ast.unparse(function.args), 'self, kind, value, trace')
            for node in ast.walk(function):
                if not isinstance(node, allowed):
                    self.found('L6', file, node, ast.dump(node)[:60])

    def test_reversed(self):
        """as a class has items, it goes over what plainly is a list."""
        for file in ALL:
            for node in file.nodes:
                if isinstance(node, ast.Call) and isinstance(node.func, ast.Name) and node.func.id == 'reversed':
                    told = node.args[0]
                    if not (isinstance(told, ast.Call) and getattr(told.func, 'id', '') in ('list', 'tuple', 'sorted', 'range')):
                        self.found('L5', file, node)

    def test_loops_do_not_change_what_they_walk(self):
        """nothing that a loop changes can be what it walks, also under another name that is assigned in the function."""
        for file in ALL:
            for function in file.functions:
                alias = Aliases(function)
                for loop in [node for node in ast.walk(function) if isinstance(node, ast.For)]:
                    walked = alias.of_all(walked_by(loop.iter))
                    for node in [node for row in loop.body for node in ast.walk(row)]:
                        for changed in changed_by(node):
                            if alias.of(changed) in walked:
                                self.found('L23', file, node, ast.unparse(changed))

    def test_what_is_put_into_a_list_is_not_the_list(self):
        """behind += stands a literal, a new list, a call, or a sum of such."""
        def is_new(node):
            if isinstance(node, ast.BinOp):
                return is_new(node.left) and is_new(node.right)
            is_slice = isinstance(node, ast.Subscript) and isinstance(node.slice, ast.Slice)
            return is_slice or isinstance(node, (ast.Constant, ast.List, ast.ListComp, ast.Call))
        for file in ALL:
            for node in file.nodes:
                if isinstance(node, ast.AugAssign) and not is_new(node.value):
                    self.found('L23', file, node, ast.unparse(node))
                if isinstance(node, ast.Call) and getattr(node.func, 'attr', '') in ('extend', 'update'):
                    self.assertTrue(all(is_new(told) for told in node.args), (file.name, node.lineno))

    def test_caught_errors(self):
        """only own errors are caught, each by its name."""
        own = {told.name for file in ALL if file.name == 'errors' for told in file.classes}
        for file in ALL:
            for node in file.nodes:
                if isinstance(node, ast.Try):
                    self.assertFalse(node.finalbody)
                    for handler in node.handlers:
                        caught = handler.type.elts if isinstance(handler.type, ast.Tuple) else [handler.type]
                        if not all(isinstance(word, ast.Name) and word.id in own for word in caught):
                            self.found('L19', file, handler)

    def test_generators(self):
        """only these are generators, and no other functions, and no variables that are called, have their names."""
        found = [function.name for file in ALL for function in file.functions
                 if any(isinstance(node, (ast.Yield, ast.YieldFrom)) for node in ast.walk(function))]
        self.assertEqual(sorted(found), ['all_patterns', 'run'])
        names = [function.name for file in ALL for function in file.functions]
        for name in found:
            self.assertEqual(names.count(name), 1)
            for file in ALL:
                for node in file.nodes:
                    if isinstance(node, ast.Call) and isinstance(node.func, ast.Name) and node.func.id == name:
                        self.found('L23', file, node, name)


if __name__ == '__main__':
    unittest.main()
