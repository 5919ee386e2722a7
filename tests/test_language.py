"""The package keeps to its part of Python, and so to promise [1]: no clock, no chance, no files."""

import ast
import builtins
import pathlib
import re
import unittest

PACKAGE = pathlib.Path(__file__).resolve().parent.parent / "nevernought"
BUILTINS = set("""len range enumerate zip min max sum abs sorted reversed int str bool bytes list tuple dict set
    frozenset isinstance ord repr any all divmod iter next super property staticmethod classmethod object
    Exception ValueError TypeError KeyError IndexError LookupError ZeroDivisionError ArithmeticError OverflowError
    RuntimeError NotImplementedError AttributeError StopIteration NotImplemented""".split())
METHODS = set("""append clear copy count endswith extend find get index insert isalnum isalpha isdigit islower
    isspace isupper items join keys ljust lower lstrip partition pop remove replace reverse rfind rjust rpartition
    rsplit rstrip setdefault split splitlines startswith strip update upper values zfill bit_length
    title capitalize swapcase casefold center expandtabs removeprefix removesuffix rindex isascii isdecimal
    isnumeric istitle isidentifier isprintable encode decode hex translate maketrans sort add discard
    from_bytes""".split())
BARRED_WORDS = r"""\b(type|typing|typing_extensions|enum|Enum|IntEnum|StrEnum|Flag|IntFlag|Generic|Protocol|ABC
    |ABCMeta|namedtuple|NamedTuple|TypedDict|TYPE_CHECKING|abstractmethod)\b|dataclass|overload|contextmanager"""
BARRED_NODES = (ast.Global, ast.AsyncFunctionDef, ast.AsyncFor, ast.AsyncWith, ast.Await, ast.Div, ast.Import,
                ast.MatchClass, ast.MatchMapping)
DOUBLE_UNDERSCORES = r"__[a-z]+__"
METHODS_OF_CLASSES = {"__init__", "__eq__", "__repr__", "__len__"}
PYTHON_S_OWN_ERRORS = {"KeyError", "ZeroDivisionError"}


def sources():
    """Each file of the package: its path, its text and its tree."""
    for path in sorted(PACKAGE.glob("*.py")):
        text = path.read_text(encoding="utf-8")
        yield path, text, ast.parse(text)


def bound_at_top(tree):
    """The names that a module binds, in their order."""
    names = []
    for node in tree.body:
        if isinstance(node, (ast.FunctionDef, ast.ClassDef)):
            names.append(node.name)
        elif isinstance(node, ast.ImportFrom):
            names += [alias.asname or alias.name for alias in node.names]
        elif isinstance(node, ast.Assign):
            names += [target.id for target in node.targets]
    return names


def defined_in(tree):
    imported = [alias.name for node in tree.body if isinstance(node, ast.ImportFrom) for alias in node.names]
    return [name for name in bound_at_top(tree) if name not in imported]


def imports_of(tree):
    return [node for node in ast.walk(tree) if isinstance(node, ast.ImportFrom)]


def local_names(function):
    """All names that a function assigns, its parameters included."""
    arguments = function.args
    told = [*arguments.args, *arguments.kwonlyargs, arguments.vararg, arguments.kwarg]
    names = {argument.arg for argument in told if argument is not None}
    for node in ast.walk(function):
        if isinstance(node, ast.Name) and isinstance(node.ctx, ast.Store):
            names.add(node.id)
    return names


def is_plain(node):
    """Whether this is a name, an attribute off a name, a literal, or a list, tuple or dict of these."""
    if isinstance(node, (ast.List, ast.Tuple)):
        return all(is_plain(part) for part in node.elts)
    if isinstance(node, ast.Dict):
        return all(part is not None and is_plain(part) for part in [*node.keys, *node.values])
    if isinstance(node, ast.UnaryOp) and isinstance(node.op, ast.USub):
        return isinstance(node.operand, ast.Constant)
    return isinstance(node, (ast.Name, ast.Constant)) or is_off_a_name(node)


def is_off_a_name(node):
    return isinstance(node, ast.Attribute) and isinstance(node.value, ast.Name)


def wrong_stars(tree):
    """The rows of all calls with a star, one or two, that has what L7 doesn't let stand behind or beside it."""
    rows = []
    for node in ast.walk(tree):
        if isinstance(node, ast.Call):
            behind = [part.value for part in node.args if isinstance(part, ast.Starred)]
            doubled = [part.value for part in node.keywords if part.arg is None]
            beside = [part for part in node.args if not isinstance(part, ast.Starred)] if doubled else []
            named = [part for part in node.keywords if part.arg is not None]
            right = all(is_plain(part) for part in behind + beside)
            right = right and all(isinstance(part, ast.Name) or is_off_a_name(part) for part in doubled)
            if not right or len(doubled) > 1 or (doubled and named):
                rows.append(node.lineno)
    return rows


def name_of(node):
    """The name of what is called, or nothing."""
    return getattr(node.func, "id", "") if isinstance(node, ast.Call) else ""


def wrong_sets(tree):
    """The rows of all sets that stand where L24 lets none stand; none is stored here."""
    right = set()
    for node in ast.walk(tree):
        if name_of(node) in ("sorted", "len"):
            right.update(id(part) for part in node.args[:1])
        if isinstance(node, ast.Compare) and isinstance(node.ops[0], (ast.In, ast.NotIn)):
            right.update(id(part) for part in node.comparators)
    return [node.lineno for node in ast.walk(tree)
            if (isinstance(node, (ast.Set, ast.SetComp)) or name_of(node) in ("set", "frozenset")) and id(node) not in right]


class Language(unittest.TestCase):
    def test_files(self):
        self.assertTrue((PACKAGE / "__init__.py").is_file())
        for path in PACKAGE.iterdir():
            if path.name != "__pycache__":
                self.assertRegex(path.name, r"\A[a-z_][a-z0-9_]*\.py\Z")

    def test_signs_and_sizes(self):
        for path, text, tree in sources():
            with self.subTest(path.name):
                self.assertRegex(text, r"\A[ -~\n]*\Z")
                rows = text.split("\n")
                self.assertLessEqual(len(rows), 401)
                self.assertLessEqual(max(len(row) for row in rows), 120)
                for node in ast.walk(tree):
                    if isinstance(node, ast.FunctionDef):
                        self.assertLessEqual(node.end_lineno - node.lineno + 1, 40, node.name)

    def test_imports_are_of_the_package_from_the_file_that_defines(self):
        trees = {path.stem: tree for path, text, tree in sources()}
        for stem, tree in trees.items():
            for node in imports_of(tree):
                with self.subTest(stem, module=node.module):
                    self.assertIn(node, tree.body)
                    self.assertEqual(node.level, 0)
                    package, dot, module = node.module.partition(".")
                    self.assertEqual(package, "nevernought")
                    for alias in node.names:
                        self.assertIn(alias.name, defined_in(trees[module]))

    def test_no_ring_of_imports(self):
        leaning = {path.stem: [node.module.partition(".")[2] for node in imports_of(tree)]
                   for path, text, tree in sources()}
        while leaning:
            free = [stem for stem, needed in leaning.items() if not any(other in leaning for other in needed)]
            self.assertTrue(free, leaning)
            for stem in free:
                del leaning[stem]

    def test_names(self):
        for path, text, tree in sources():
            names = bound_at_top(tree)
            self.assertEqual(len(names), len(set(names)), path.name)
            for node in ast.walk(tree):
                name = getattr(node, "id", None) or getattr(node, "attr", None) or getattr(node, "arg", None)
                if isinstance(name, str) and name.startswith("_"):
                    self.assertRegex(name, DOUBLE_UNDERSCORES)
                if isinstance(node, ast.FunctionDef) and node.name.startswith("_"):
                    self.assertRegex(node.name, DOUBLE_UNDERSCORES)

    def test_no_local_name_hides_an_import_a_class_or_a_builtin(self):
        for path, text, tree in sources():
            barred = set(dir(builtins))
            barred.update(alias.name for node in imports_of(tree) for alias in node.names)
            barred.update(node.name for node in tree.body if isinstance(node, ast.ClassDef))
            for node in ast.walk(tree):
                if isinstance(node, ast.FunctionDef):
                    self.assertEqual(local_names(node) & barred, set(), (path.name, node.name))

    def test_builtins_and_methods(self):
        own = {node.name for path, text, tree in sources() for node in ast.walk(tree)
               if isinstance(node, ast.FunctionDef)}
        for path, text, tree in sources():
            for node in ast.walk(tree):
                if isinstance(node, ast.Name) and node.id in dir(builtins):
                    self.assertIn(node.id, BUILTINS, path.name)
                if isinstance(node, ast.Call) and isinstance(node.func, ast.Attribute):
                    self.assertIn(node.func.attr, METHODS | own, path.name)

    def test_no_name_is_a_method_here_and_an_attribute_there(self):
        methods, attributes = set(), set()
        for path, text, tree in sources():
            for node in ast.walk(tree):
                if isinstance(node, ast.ClassDef):
                    methods.update(inner.name for inner in node.body if isinstance(inner, ast.FunctionDef))
                if isinstance(node, ast.Attribute) and isinstance(node.ctx, ast.Store):
                    attributes.add(node.attr)
        self.assertEqual(methods & attributes, set())
        for path, text, tree in sources():
            for node in ast.walk(tree):
                if isinstance(node, ast.Attribute):
                    self.assertIn(node.attr, methods | attributes | METHODS, path.name)

    def test_is_stands_with_none_true_and_false_only(self):
        for path, text, tree in sources():
            for node in ast.walk(tree):
                if isinstance(node, ast.Compare):
                    for sign, other in zip(node.ops, node.comparators):
                        if isinstance(sign, (ast.Is, ast.IsNot)):
                            self.assertIsInstance(other, ast.Constant, path.name)
                            self.assertIn(other.value, (None, True, False), path.name)

    def test_zips_and_ranges_are_iterated_at_once(self):
        takers = {"list", "tuple", "dict", "sorted", "sum", "any", "all", "enumerate", "zip", "min", "max", "reversed"}
        for path, text, tree in sources():
            right = set()
            for node in ast.walk(tree):
                if isinstance(node, (ast.For, ast.comprehension)):
                    right.add(id(node.iter))
                if isinstance(node, ast.Call) and getattr(node.func, "id", "") in takers and node.args:
                    right.add(id(node.args[0]))
            for node in ast.walk(tree):
                if isinstance(node, ast.Call) and getattr(node.func, "id", "") in ("zip", "enumerate", "reversed", "range"):
                    self.assertTrue(id(node) in right or self.is_joined(tree, node), (path.name, node.lineno))

    def test_sets_are_sorted_counted_or_looked_into_at_once(self):
        for path, text, tree in sources():
            self.assertEqual(wrong_sets(tree), [], path.name)
        for text in ("for x in set(xs): pass", "a = {1}", "f({x for x in xs})", "list(set(xs))", "sum({x for x in xs})"):
            self.assertEqual(wrong_sets(ast.parse(text)), [1], text)

    def test_no_star_in_a_set_or_an_index(self):
        for path, text, tree in sources():
            for node in ast.walk(tree):
                if isinstance(node, ast.Set):
                    self.assertFalse([part for part in node.elts if isinstance(part, ast.Starred)], path.name)
                if isinstance(node, ast.Subscript):
                    self.assertFalse([part for part in ast.walk(node.slice) if isinstance(part, ast.Starred)], path.name)

    def test_errors_are_made_where_they_are_raised_and_caught_by_name(self):
        own = {node.name for path, text, tree in sources() if path.name == "errors.py" for node in tree.body
               if isinstance(node, ast.ClassDef)}
        for path, text, tree in sources():
            for node in ast.walk(tree):
                if isinstance(node, ast.Raise) and node.exc is not None:
                    self.assertIn(name_of(node.exc), own, path.name)
                if isinstance(node, ast.ExceptHandler):
                    caught = node.type.elts if isinstance(node.type, ast.Tuple) else [node.type]
                    self.assertTrue({part.id for part in caught} <= own | PYTHON_S_OWN_ERRORS, path.name)

    def test_double_underscores(self):
        for path, text, tree in sources():
            methods = [node for part in tree.body if isinstance(part, ast.ClassDef) for node in part.body
                       if isinstance(node, ast.FunctionDef) and node.name.startswith("__")]
            for node in methods:
                self.assertIn(node.name, METHODS_OF_CLASSES, path.name)
                if node.name == "__init__":
                    continue
                self.assertIsInstance(node.body[-1], ast.Return, path.name)
                self.assertEqual(len(node.body), 1, path.name)
                if node.name == "__len__":
                    self.assertEqual(name_of(node.body[-1].value), "len", path.name)
                if node.name == "__repr__":
                    self.assertIsInstance(node.body[-1].value, ast.JoinedStr, path.name)

    def test_no_decorators_and_no_state_at_the_top(self):
        for path, text, tree in sources():
            for node in ast.walk(tree):
                if isinstance(node, (ast.FunctionDef, ast.ClassDef)):
                    self.assertEqual(node.decorator_list, [], path.name)
            for node in tree.body:
                if isinstance(node, ast.Assign) and isinstance(node.value, (ast.List, ast.Dict)):
                    within = [part for part in ast.walk(node.value) if isinstance(part, (ast.List, ast.Dict))]
                    self.assertEqual(len(within), 1, path.name)

    def test_what_stands_behind_the_star_of_a_call(self):
        for path, text, tree in sources():
            self.assertEqual(wrong_stars(tree), [], path.name)

    def test_wrong_stars_are_found(self):
        for text in ("zip(*other[0])", "zip(*other[1:])", "f(*made(xs))", "f(k, *xs.items())", "f(*[g(x)])", "f(*xs + ys)",
                     "f(*[x for x in xs])", "f(*a.b.c)", "f(*(xs[0], 1))", "list(zip(*rows[k]))", "f(*(xs or ys))",
                     "f(**made())", "f(**d[0])", "f(**{'a': 1})", "f(g(x), **d)", "f(**d, **e)", "f(a=1, **d)",
                     "f(*xs, *ys[0])", "f(xs[0], **d)", "g(f(*xs[::2]))"):
            self.assertEqual(wrong_stars(ast.parse("pass\n" + text)), [2], text)
        for text in ("zip(*other)", "f(k, *xs)", "f(*box.rows)", "f(*[xs, 1])", "f(*(a, -1))", "f(*'ab')", "f(**d)",
                     "f(k, **box.more)", "f(*xs, n, sep=n)", "[*xs[0], 1]", "f(xs[0], g(x), *ys)", "a, *b = xs[0]"):
            self.assertEqual(wrong_stars(ast.parse(text)), [], text)

    def is_joined(self, tree, node):
        """Whether a call stands in the join of a literal."""
        return any(isinstance(other, ast.Call) and getattr(other.func, "attr", "") == "join" and node in other.args
                   for other in ast.walk(tree))

    def test_barred_words_and_forms(self):
        for path, text, tree in sources():
            self.assertIsNone(re.search(BARRED_WORDS, text, re.VERBOSE), path.name)
            for node in ast.walk(tree):
                self.assertNotIsInstance(node, BARRED_NODES, path.name)
                if isinstance(node, ast.Constant):
                    self.assertNotIsInstance(node.value, (float, complex), path.name)
                    self.assertFalse(isinstance(node.value, str) and "%" in node.value, path.name)
                if isinstance(node, ast.BinOp) and isinstance(node.op, ast.Pow):
                    self.assertIsInstance(node.right, ast.Constant, path.name)
                if isinstance(node, ast.Call) and getattr(node.func, "id", "") in ("any", "all", "min", "max", "sum",
                                                                                       "sorted"):
                    self.assertFalse([a for a in node.args if isinstance(a, ast.GeneratorExp)], path.name)


if __name__ == "__main__":
    unittest.main()
