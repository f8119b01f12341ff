"""A look at the package's own files: the rules of the language that are easily broken."""

import ast
import builtins
import io
import pathlib
import re
import tokenize
import unittest

PACKAGE = pathlib.Path(__file__).resolve().parent.parent / "wordfractions"
FILES = sorted(path for path in PACKAGE.rglob("*.py"))
BUILTINS = set(
    "len range enumerate zip min max sum abs sorted reversed int str bool list tuple dict set isinstance ord repr any"
    " all divmod iter super property staticmethod classmethod Exception ValueError TypeError KeyError IndexError"
    " LookupError NotImplemented".split())
METHODS = set(
    "append clear copy count endswith extend find get index insert isalnum isalpha isdigit islower isspace isupper"
    " items join keys ljust lower lstrip partition pop remove replace reverse rfind rjust rpartition rsplit rstrip"
    " setdefault split splitlines startswith strip update upper values zfill bit_length removeprefix removesuffix"
    " add discard __init__".split())
DUNDERS = set(
    "__init__ __eq__ __repr__ __str__ __len__ __iter__ __contains__ __mul__ __neg__ __lt__ __add__ __sub__".split())
NEVER = set("register mro elements open input law version_info with_traceback add_note".split())
NOT_NAMES = NEVER | set(
    "attrgetter breakpoint builtins compile copyright credits delattr dir eval exec exit gc globals help id importlib"
    " license locals methodcaller os quit vars sys".split())
WORDS = ("type typing typing_extensions enum Enum IntEnum StrEnum Flag IntFlag Generic Protocol ABC ABCMeta namedtuple"
         " NamedTuple TypedDict TYPE_CHECKING abstractmethod").split()
FORBIDDEN = (
    ast.AsyncFunctionDef, ast.AsyncFor, ast.AsyncWith, ast.Await, ast.Global, ast.Import, ast.Div, ast.AnnAssign,
)
TAKES_LISTS = ("any", "all", "sum", "min", "max", "sorted")
CHANGING = set("append clear extend insert pop remove reverse setdefault update add discard sort".split())
MADE = (ast.List, ast.Dict, ast.Set, ast.ListComp, ast.SetComp, ast.DictComp, ast.BinOp)
MAKERS = ("list", "dict", "set", "sorted")


def nodes(path, *kinds):
    tree = ast.parse(path.read_text(encoding="ascii"))
    return [node for node in ast.walk(tree) if isinstance(node, kinds or ast.AST)]


def docstrings(path):
    found = []
    for node in nodes(path, ast.Module, ast.ClassDef, ast.FunctionDef):
        if ast.get_docstring(node) is not None:
            found.append(node.body[0].value)
    return [(node.lineno, node.col_offset) for node in found]


def walks(function):
    """Yield (heads, rows) for each loop and comprehension: what it walks, and what is run for each item."""
    for node in ast.walk(function):
        if isinstance(node, ast.For):
            yield [node.iter], node.body
        elif isinstance(node, (ast.ListComp, ast.SetComp, ast.DictComp, ast.GeneratorExp)):
            yield [part.iter for part in node.generators], [node]


def changed_things(rows):
    """Yield what is changed in these rows: by a method, by a sign such as `+=`, in an item or in an attribute."""
    for row in rows:
        for node in ast.walk(row):
            if isinstance(node, ast.Call) and isinstance(node.func, ast.Attribute) and node.func.attr in CHANGING:
                yield node.func.value
            elif isinstance(node, ast.AugAssign) and isinstance(node.target, ast.Name):
                yield node.target
            elif isinstance(node, (ast.Subscript, ast.Attribute)) and not isinstance(node.ctx, ast.Load):
                yield node.value


def is_made(value):
    """The value is plainly one that was made just there."""
    if isinstance(value, ast.Call):
        return isinstance(value.func, ast.Name) and value.func.id in MAKERS
    return isinstance(value, MADE)


def is_own(function, name):
    """The name is a parameter (but not a method's object), or the function made all that it gives this name."""
    parameters = [part.arg for part in function.args.args]
    values = [node.value for node in ast.walk(function) if isinstance(node, ast.Assign)
              and name in [ast.unparse(target) for target in node.targets]]
    return name != "self" and (bool(values) or name in parameters) and all(is_made(value) for value in values)


def unplain_changes(tree):
    """Return (row, text) for what is changed in a loop and is not plainly another thing than what it walks."""
    found = {}
    for function in ast.walk(tree):
        if not isinstance(function, ast.FunctionDef):
            continue
        for heads, rows in walks(function):
            named = {node.id for head in heads for node in ast.walk(head) if isinstance(node, ast.Name)}
            for thing in changed_things(rows):
                plain = isinstance(thing, ast.Name) and thing.id not in named
                # A name that `+=` gives another value may well be a number's.
                if not plain or isinstance(thing.ctx, ast.Load) and not is_own(function, thing.id):
                    found[thing.lineno, ast.unparse(thing)] = True
    return sorted(found)


class LanguageTest(unittest.TestCase):

    def each(self, *kinds):
        for path in FILES:
            for node in nodes(path, *kinds):
                where = f"{path.relative_to(PACKAGE)}:{getattr(node, 'lineno', 0)}"
                yield where, node

    def test_files(self):
        self.assertLessEqual(len(FILES), 100)
        for path in PACKAGE.rglob("*"):
            if "__pycache__" in path.parts:
                continue
            self.assertRegex(path.name, r"^([a-z][a-z0-9_]*(\.py)?|__init__\.py)$")
            if path.is_dir():
                self.assertTrue((path / "__init__.py").exists(), path)
                self.assertFalse(path.with_suffix(".py").exists(), path)
            self.assertFalse(hasattr(builtins, path.stem) and path.stem != "__init__", path)

    def test_lines(self):
        for path in FILES:
            text = path.read_text(encoding="ascii")
            self.assertRegex(text, r"\A[\n -~]*\Z", path)
            rows = text.split("\n")
            self.assertLessEqual(len(rows), 399, path)
            self.assertLessEqual(max(len(row) for row in rows), 120, path)

    def test_lengths_of_functions(self):
        for where, node in self.each(ast.FunctionDef):
            self.assertLessEqual(node.end_lineno - node.lineno + 1, 40, where)

    def test_statements(self):
        for where, node in self.each(*FORBIDDEN):
            self.fail(f"{where}: {node}")
        for where, node in self.each(ast.Constant):
            self.assertNotIsInstance(node.value, (float, complex), where)

    def test_imports(self):
        for where, node in self.each(ast.ImportFrom):
            self.assertEqual(node.level, 0, where)
            self.assertTrue(node.module.startswith("wordfractions."), where)
            source = PACKAGE.joinpath(*node.module.split(".")[1:]).with_suffix(".py")
            bound = set()
            for statement in ast.parse(source.read_text()).body:
                if isinstance(statement, (ast.FunctionDef, ast.ClassDef)):
                    bound.add(statement.name)
                elif isinstance(statement, ast.Assign):
                    bound.add(statement.targets[0].id)
            for name in node.names:
                self.assertIsNone(name.asname, where)
                self.assertIn(name.name, bound, where)

    def test_no_two_files_import_each_other(self):
        graph = {}
        for path in FILES:
            name = ".".join(path.relative_to(PACKAGE.parent).with_suffix("").parts)
            graph[name] = [node.module for node in nodes(path, ast.ImportFrom)]
        while graph:
            free = [name for name, wanted in graph.items() if not any(other in graph for other in wanted)]
            self.assertTrue(free, graph)
            for name in free:
                del graph[name]

    def test_bound_names(self):
        for where, node in self.each(ast.Name, ast.arg, ast.FunctionDef, ast.ClassDef, ast.Attribute):
            if isinstance(node, ast.Name):
                name = node.id
                stored = isinstance(node.ctx, ast.Store)
            else:
                name = getattr(node, "arg", None) or getattr(node, "name", None) or getattr(node, "attr", None)
                stored = not isinstance(node, ast.Attribute)
            self.assertNotIn(name, NEVER, where)
            if name.startswith("__"):
                self.assertIn(name, DUNDERS, where)
                continue
            self.assertRegex(name, r"^(_|_?[A-Za-z][A-Za-z0-9_]*)$", where)
            if stored:
                self.assertFalse(hasattr(builtins, name), f"{where}: {name}")
                self.assertNotIn(name, NOT_NAMES, where)
            elif isinstance(node, ast.Name) and hasattr(builtins, name):
                self.assertIn(name, BUILTINS, where)
            if isinstance(node, ast.Name) and not stored:
                self.assertNotEqual(name, "_", where)

    def test_names_of_imports_and_classes_are_not_used_again(self):
        for path in FILES:
            taken = {alias.name for node in nodes(path, ast.ImportFrom) for alias in node.names}
            taken |= {node.name for node in nodes(path, ast.ClassDef)}
            for node in nodes(path, ast.Name, ast.arg):
                stored = isinstance(node, ast.arg) or isinstance(node.ctx, ast.Store)
                name = node.arg if isinstance(node, ast.arg) else node.id
                self.assertFalse(stored and name in taken, f"{path}: {name}")

    def test_decorators(self):
        for where, node in self.each(ast.FunctionDef, ast.ClassDef):
            for decorator in node.decorator_list:
                self.assertIn(ast.unparse(decorator), ("property", "staticmethod", "classmethod"), where)
                self.assertIsInstance(node, ast.FunctionDef, where)

    def test_properties_are_not_assigned(self):
        names = {node.name for _, node in self.each(ast.FunctionDef)
                 if any(ast.unparse(decorator) == "property" for decorator in node.decorator_list)}
        for where, node in self.each(ast.Attribute):
            if isinstance(node.ctx, ast.Store):
                self.assertNotIn(node.attr, names, where)

    def test_methods(self):
        own = {node.name for _, node in self.each(ast.FunctionDef)}
        for where, node in self.each(ast.Call):
            if isinstance(node.func, ast.Attribute):
                self.assertIn(node.func.attr, METHODS | own, where)

    def test_generators_stand_alone_and_lists_are_given(self):
        for where, node in self.each(ast.Call):
            if isinstance(node.func, ast.Name) and node.func.id in TAKES_LISTS:
                self.assertFalse(any(isinstance(part, ast.GeneratorExp) for part in node.args), where)
        for where, node in self.each(ast.Expr):
            self.assertIsInstance(node.value, (ast.Call, ast.Yield, ast.YieldFrom, ast.Constant), where)

    def test_what_a_loop_walks_is_not_changed_in_it(self):
        for path in FILES:
            self.assertEqual(unplain_changes(ast.parse(path.read_text())), [], path)

    def test_changes_in_loops_are_seen(self):
        """The test above sees the forms that it is for, and lets plain ones be."""
        for head, row in (
                ("self._kinds", "self._groups.setdefault(k, []).append(k)"), ("self._kinds", "self._groups[k] = k"),
                ("self._kinds", "self._kinds.append(k)"), ("self._kinds", "self._last = k"), ("xs", "xs.append(k)"),
                ("xs", "del xs[k]"), ("xs", "xs[k] += 1"), ("xs", "xs += [k]"), ("enumerate(xs)", "xs[0] = k"),
                ("zip(ys, xs)", "xs.pop()"), ("xs if ys else made", "made.append(k)"), ("xs or made", "made.append(k)"),
                ("made[xs.pop()]", "xs.add(k)"), ("xs", "kept.append(k)"), ("xs", "made[0].append(k)"),
                ("xs", "made.setdefault(k, []).append(k)"), ("xs", "xs.held.append(k)"),
                ("xs", "[xs.pop() for _ in made]"), ("xs", "[y for y in made if made.pop()]")):
            made = f"def f(self, xs, ys):\n    made = []\n    kept = self._kept\n    for k in {head}:\n        {row}"
            self.assertEqual({line for line, _ in unplain_changes(ast.parse(made))}, {5}, made)
        for head, row in (
                ("self._kinds", "made[k] = k"), ("self._kinds", "made.append(k)"), ("self._kinds", "made += [k]"),
                ("list(self._kinds)", "made[k] += 1"), ("xs", "ys.append(k)"), ("range(len(xs))", "del ys[k]"),
                ("xs.items()", "made.extend(self._kept)"), ("xs", "k = self._groups[k]"),
                ("xs", "made.append([y for y in ys])"), ("xs", "self.do(k)")):
            made = f"def f(self, xs, ys):\n    made = []\n    for k in {head}:\n        {row}\n    self._made = made"
            self.assertEqual(unplain_changes(ast.parse(made)), [], made)

    def test_generators_have_names_of_their_own(self):
        functions = [node for _, node in self.each(ast.FunctionDef)]
        names = [node.name for node in functions]
        for node in functions:
            if any(isinstance(part, (ast.Yield, ast.YieldFrom)) for part in ast.walk(node)):
                self.assertEqual(names.count(node.name), 1, node.name)

    def test_is(self):
        for where, node in self.each(ast.Compare):
            for operator, right in zip(node.ops, node.comparators):
                if isinstance(operator, (ast.Is, ast.IsNot)):
                    self.assertIsInstance(right, ast.Constant, where)
                    self.assertIn(right.value, (None, True, False), where)

    def test_handlers(self):
        errors = {node.name for node in nodes(PACKAGE / "errors.py", ast.ClassDef)} | {"KeyError"}
        for where, node in self.each(ast.ExceptHandler):
            self.assertIsNotNone(node.type, where)
            caught = node.type.elts if isinstance(node.type, ast.Tuple) else [node.type]
            for name in caught:
                self.assertIn(name.id, errors, where)
        for where, node in self.each(ast.Raise):
            self.assertTrue(node.exc is None or isinstance(node.exc, ast.Call) and node.exc.func.id in errors, where)

    def test_strings(self):
        for where, node in self.each(ast.Constant):
            if isinstance(node.value, str):
                self.assertNotIn("%", node.value, where)
                self.assertFalse(re.search(r"^__.*__$|\.__?$", node.value), where)

    def test_words(self):
        for path in FILES:
            skipped = docstrings(path)
            for token in tokenize.generate_tokens(io.StringIO(path.read_text()).readline):
                if token.type == tokenize.COMMENT or token.start in skipped:
                    continue
                for word in re.findall(r"\w+", token.string):
                    self.assertNotIn(word, WORDS, f"{path}:{token.start}")
                self.assertNotRegex(token.string, "dataclass|overload|contextmanager")

    def test_module_level(self):
        allowed = (ast.FunctionDef, ast.ClassDef, ast.ImportFrom, ast.Assign, ast.Expr)
        for path in FILES:
            body = ast.parse(path.read_text()).body
            self.assertIsNotNone(ast.get_docstring(ast.parse(path.read_text())), path)
            for statement in body:
                self.assertIsInstance(statement, allowed, path)
            bound = [getattr(statement, "name", None) or statement.targets[0].id for statement in body
                     if isinstance(statement, (ast.FunctionDef, ast.ClassDef, ast.Assign))]
            self.assertEqual(len(set(bound)), len(bound), path)
