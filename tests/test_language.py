"""The form of the code: those rules of the language that a plain look at the files can hold them to."""

import ast
import builtins
import functools
import pathlib
import unittest

PACKAGE = pathlib.Path(__file__).resolve().parent.parent / "sixkeepers"
LIBRARY = {"heapq", "math", "itertools", "collections"}
LET_BUILTINS = set(
    "len range enumerate zip min max sum abs sorted reversed int str bool bytes list tuple dict set frozenset isinstance ord "
    "repr any all divmod pow getattr hasattr setattr iter next map super property staticmethod classmethod Exception ValueError "
    "TypeError KeyError IndexError LookupError ZeroDivisionError ArithmeticError OverflowError RuntimeError "
    "NotImplementedError StopIteration NotImplemented type object".split()
)
BARRED_NAMES = set(
    "register mro elements open input law version_info with_traceback add_note attrgetter breakpoint compile copyright "
    "credits delattr dir eval exec exit gc globals help id importlib license locals methodcaller os quit vars sys".split()
)
BARRED_ATTRIBUTES = set(
    "items keys values pop update append clear extend insert remove reverse setdefault sort args encode decode hex "
    "fromhex format as_integer_ratio bit_count conjugate from_bytes is_integer to_bytes".split()
)
OPERATORS = ("__getitem__", "__contains__", "__len__", "__iter__", "__str__", "__eq__")
LET_METHODS = set(
    "append clear copy count endswith extend find get index insert isalnum isalpha isdigit islower isspace isupper items "
    "join keys ljust lower lstrip partition pop remove replace reverse rfind rjust rpartition rsplit rstrip setdefault "
    "split splitlines startswith strip update upper values zfill bit_length".split()
)
# What changes the thing whose method it is.
CHANGING = set("append clear extend insert pop remove reverse setdefault update sort add discard".split())
THROUGH = ("enumerate", "zip", "reversed", "iter")
BARRED_NODES = (
    ast.AsyncFunctionDef, ast.AsyncFor, ast.AsyncWith, ast.Await, ast.Div, ast.MatMult, ast.GeneratorExp, ast.Import,
)


def files():
    return sorted(PACKAGE.iterdir())


@functools.lru_cache(maxsize=None)
def sources():
    return {path.name: path.read_text(encoding="utf-8") for path in files() if path.suffix == ".py"}


@functools.lru_cache(maxsize=None)
def trees():
    return {name: ast.parse(text) for name, text in sources().items()}


def nodes(kind):
    for name, tree in trees().items():
        for node in ast.walk(tree):
            if isinstance(node, kind):
                yield name, node


def bound_names(node):
    """The names that a node binds."""
    if isinstance(node, (ast.FunctionDef, ast.ClassDef)):
        return [node.name]
    if isinstance(node, ast.arg):
        return [node.arg]
    if isinstance(node, ast.Name) and isinstance(node.ctx, ast.Store):
        return [node.id]
    return []


def named(node):
    """What a thing goes by: its name, ".field", or "[]" behind these for an item; a choice by that of each side."""
    if isinstance(node, ast.Name):
        return [node.id]
    if isinstance(node, ast.Attribute):
        return ["." + node.attr]
    if isinstance(node, ast.Subscript) and not isinstance(node.slice, ast.Slice):
        return [word + "[]" for word in named(node.value)]
    if isinstance(node, ast.IfExp):
        return named(node.body) + named(node.orelse)
    if isinstance(node, ast.BoolOp):
        return [word for one in node.values for word in named(one)]
    return []


def walked(node):
    """What a loop over the node walks."""
    if isinstance(node, ast.Call) and isinstance(node.func, ast.Name) and node.func.id in THROUGH:
        return [word for one in node.args for word in walked(one)]
    if isinstance(node, ast.Call) and isinstance(node.func, ast.Attribute) and node.func.attr in ("items", "keys", "values"):
        return named(node.func.value)
    return named(node)


def pairs_of(target, value):
    """The pairs of a target and a value of an assignment, those of parallel tuples one by one."""
    if isinstance(target, ast.Tuple) and isinstance(value, ast.Tuple) and len(target.elts) == len(value.elts):
        return [pair for each in zip(target.elts, value.elts) for pair in pairs_of(*each)]
    return [(target, value)]


def shared_names(tree):
    """For each word the set of those that go by each other's names somewhere in the tree; others have none."""
    lots = {}
    for node in ast.walk(tree):
        pairs = []
        if isinstance(node, ast.Assign):
            pairs = [pair for target in node.targets for pair in pairs_of(target, node.value)]
        words = [(named(target), named(value)) for target, value in pairs]
        if isinstance(node, (ast.For, ast.comprehension)):
            words = [(named(node.target), [word + "[]" for word in walked(node.iter)])]
        for targets, values in words:
            for one in targets if values else []:
                lot = set().union(*[lots.get(word, {word}) for word in [one] + values])
                lots.update({word: lot for word in lot})
    return lots


def changes(node):
    """What the node, without those within it, changes the items of."""
    if isinstance(node, ast.Call) and isinstance(node.func, ast.Attribute) and node.func.attr in CHANGING:
        return named(node.func.value)
    if isinstance(node, ast.Call) and isinstance(node.func, ast.Name) and node.func.id.startswith("heap"):
        return named(node.args[0])
    if isinstance(node, ast.AugAssign):
        return named(node.target) + [word.removesuffix("[]") for word in named(node.target)]
    targets = node.targets if isinstance(node, (ast.Assign, ast.Delete)) else []
    targets = [each for one in targets for each in (one.elts if isinstance(one, ast.Tuple) else [one])]
    return [word for one in targets if isinstance(one, ast.Subscript) for word in named(one.value)]


def changed_walks(tree):
    """The pairs of the lines of a loop and of what in it changes, by whatever name, what the loop walks."""
    found = []
    for function in ast.walk(tree):
        if isinstance(function, ast.FunctionDef):
            lots = shared_names(function)
            for loop in ast.walk(function):
                body = loop.body if isinstance(loop, ast.For) else [loop] if hasattr(loop, "generators") else []
                heads = [loop.iter] if isinstance(loop, ast.For) else [one.iter for one in getattr(loop, "generators", [])]
                barred = {each for head in heads for word in walked(head) for each in lots.get(word, {word})}
                inner = [node for one in body for node in ast.walk(one)]
                found += [(loop.lineno, node.lineno) for node in inner if not barred.isdisjoint(changes(node))]
    return found


class Files(unittest.TestCase):
    def test_folder(self):
        for path in files():
            if path.name != "__pycache__":
                self.assertRegex(path.name, r"\A[a-z_][a-z0-9_]*\.py\Z")
        self.assertIn("__init__.py", [path.name for path in files()])

    def test_signs_and_lengths(self):
        for name, text in sources().items():
            lines = text.split("\n")
            self.assertLessEqual(len(lines), 400, name)
            self.assertTrue(all(sign == "\n" or " " <= sign <= "~" for sign in text), name)
            self.assertLessEqual(max(map(len, lines)), 120, name)
            self.assertNotIn("\\x", text)

    def test_functions(self):
        for name, node in nodes(ast.FunctionDef):
            self.assertLessEqual(node.end_lineno - node.lineno + 1, 40, (name, node.name))


class Imports(unittest.TestCase):
    def test_form(self):
        for name, node in nodes(ast.ImportFrom):
            self.assertEqual(node.level, 0)
            self.assertTrue(all(alias.asname is None and alias.name != "*" for alias in node.names))
            self.assertTrue(node.module in LIBRARY or node.module.startswith("sixkeepers."), (name, node.module))

    def test_names_are_defined_where_they_come_from(self):
        for name, node in nodes(ast.ImportFrom):
            if node.module in LIBRARY:
                continue
            tree = trees()[node.module.removeprefix("sixkeepers.") + ".py"]
            defined = [word for one in tree.body for word in top_names(one)]
            for alias in node.names:
                self.assertIn(alias.name, defined, name)

    def test_each_import_is_used(self):
        for name, node in nodes(ast.ImportFrom):
            used = {one.id for one in ast.walk(trees()[name]) if isinstance(one, ast.Name)}
            for alias in node.names:
                self.assertIn(alias.name, used, name)

    def test_no_two_files_import_from_each_other(self):
        needs = {}
        for name, node in nodes(ast.ImportFrom):
            if node.module not in LIBRARY:
                needs.setdefault(name, set()).add(node.module.removeprefix("sixkeepers.") + ".py")
        done = set()
        while len(done) < len(sources()):
            ready = {name for name in sources() if needs.get(name, set()) <= done} - done
            self.assertTrue(ready, "files import from each other")
            done |= ready


def plain_methods(node):
    return [one for one in node.body if isinstance(one, ast.FunctionDef) and not one.decorator_list]


def is_set(node):
    called = isinstance(node, ast.Call) and isinstance(node.func, ast.Name) and node.func.id == "set"
    return called or isinstance(node, (ast.Set, ast.SetComp))


def top_names(node):
    if isinstance(node, ast.Assign):
        return [target.id for target in node.targets]
    return [node.name] if isinstance(node, (ast.FunctionDef, ast.ClassDef)) else []


class Code(unittest.TestCase):
    def test_module_level(self):
        for name, tree in trees().items():
            self.assertIsInstance(tree.body[0], ast.Expr, name)
            bound = []
            for node in tree.body[1:]:
                self.assertIsInstance(node, (ast.ImportFrom, ast.Assign, ast.FunctionDef, ast.ClassDef), name)
                bound += [alias.name for alias in node.names] if isinstance(node, ast.ImportFrom) else top_names(node)
            self.assertEqual(len(bound), len(set(bound)), name)

    def test_what_is_not_let(self):
        for name, node in nodes(BARRED_NODES):
            self.fail((name, node.lineno, type(node).__name__))
        for name, node in nodes(ast.Constant):
            self.assertNotIsInstance(node.value, (float, complex), name)
        for name, node in nodes(ast.BinOp):
            if isinstance(node.op, ast.Pow):
                self.assertIsInstance(node.right, ast.Constant, (name, node.lineno))

    def test_names(self):
        for name, tree in trees().items():
            taken = {alias.name for node in tree.body if isinstance(node, ast.ImportFrom) for alias in node.names}
            taken |= {node.name for node in tree.body if isinstance(node, ast.ClassDef)}
            for node in ast.walk(tree):
                for word in bound_names(node):
                    self.assertNotIn(word, vars(builtins), name)
                    self.assertNotIn(word, BARRED_NAMES, name)
                    if not isinstance(node, ast.ClassDef):
                        self.assertNotIn(word, taken, (name, node.lineno))

    def test_builtins(self):
        for name, node in nodes(ast.Name):
            if isinstance(node.ctx, ast.Load) and node.id in vars(builtins):
                self.assertIn(node.id, LET_BUILTINS, (name, node.lineno))

    def test_attributes(self):
        for name, node in nodes(ast.Attribute):
            if isinstance(node.ctx, ast.Store):
                self.assertNotIn(node.attr, BARRED_ATTRIBUTES, (name, node.lineno))
                self.assertIsInstance(node.value, ast.Name, (name, node.lineno))
        for name, node in nodes(ast.ClassDef):
            methods = {one.name for one in node.body if isinstance(one, ast.FunctionDef)}
            kept = {
                one.attr for one in ast.walk(node) if isinstance(one, ast.Attribute) and isinstance(one.ctx, ast.Store)
            }
            self.assertFalse(methods & kept, (name, node.name))

    def test_properties(self):
        kept = {one.attr for _, one in nodes(ast.Attribute) if isinstance(one.ctx, ast.Store)}
        methods = {one.name for _, node in nodes(ast.ClassDef) for one in plain_methods(node)}
        for name, node in nodes(ast.ClassDef):
            for one in node.body:
                if isinstance(one, ast.FunctionDef) and one.decorator_list:
                    self.assertEqual([ast.unparse(each) for each in one.decorator_list], ["property"])
                    self.assertNotIn(one.name, kept | methods | BARRED_ATTRIBUTES, name)
                    # Its docstring, and what it returns: so nothing is changed, nothing that is held is called.
                    self.assertEqual([type(each) for each in one.body], [ast.Expr, ast.Return], (name, one.name))

    def test_operators(self):
        for name, node in nodes(ast.FunctionDef):
            if node.name.startswith("__") and node.name != "__init__":
                self.assertIn(node.name, OPERATORS, name)
                for one in ast.walk(node):
                    self.assertNotIsInstance(one, (ast.Assign, ast.AugAssign, ast.Try, ast.While, ast.For, ast.Delete))

    def test_errors(self):
        own = {node.name for _, node in nodes(ast.ClassDef) if any("Error" in ast.unparse(base) for base in node.bases)}
        for name, node in nodes(ast.ExceptHandler):
            self.assertIn(ast.unparse(node.type), own, name)
        for name, node in nodes(ast.Raise):
            if node.exc is not None:
                self.assertIsInstance(node.exc, ast.Call)
                self.assertIn(node.exc.func.id, own, name)
        for name, node in nodes(ast.Try):
            for one in node.finalbody:
                self.assertIsInstance(one, ast.Assign)
                self.assertIsInstance(one.value, (ast.Name, ast.Constant))

    def test_methods_of_builtin_values(self):
        own = {one.name for _, node in nodes(ast.ClassDef) for one in node.body if isinstance(one, ast.FunctionDef)}
        for name, node in nodes(ast.Call):
            if isinstance(node.func, ast.Attribute):
                self.assertIn(node.func.attr, own | LET_METHODS, (name, node.lineno))
                self.assertFalse(node.func.attr in LET_METHODS and node.keywords, (name, node.lineno))

    def test_sets(self):
        # A set stands where it is measured, sorted or looked into, or is the one value of a local variable.
        for name, tree in trees().items():
            for node in ast.walk(tree):
                for one in ast.iter_child_nodes(node):
                    if is_set(one):
                        fit = isinstance(node, (ast.Compare, ast.BinOp, ast.Assign))
                        fit = fit or isinstance(node, ast.Call) and node.func.id in ("sorted", "len")
                        self.assertTrue(fit, (name, one.lineno))

    def test_strings(self):
        for name, node in nodes(ast.Constant):
            if isinstance(node.value, str):
                self.assertNotIn("%", node.value, (name, node.lineno))
                self.assertNotIn("._", node.value, (name, node.lineno))

    def test_generators(self):
        makers = [node.name for _, node in nodes(ast.FunctionDef) if any(isinstance(one, ast.Yield) for one in ast.walk(node))]
        self.assertEqual(makers, ["answers"])
        for name, node in nodes(ast.Call):
            if isinstance(node.func, ast.Name):
                self.assertNotIn(node.func.id, makers, (name, node.lineno))

    def test_what_a_loop_walks_is_not_changed_in_it(self):
        for name, tree in trees().items():
            self.assertEqual(changed_walks(tree), [], name)

    def test_changed_walks_are_seen(self):
        wrong = (
            "for x in xs:\n  xs.append(x)",
            "for k, x in enumerate(xs):\n  xs[k] = 0",
            "for k in d.keys():\n  del d[k]",
            "for x in self.xs:\n  other.xs.pop()",
            "for x in xs if x else ys:\n  ys.append(x)",
            "for x in xs or ys:\n  xs += [x]",
            "while xs:\n  ys = []\n  for x in xs:\n   ys.append(x)\n  xs = ys",
            "while xs:\n  ys = {}\n  for k, x in xs.items():\n   ys[k] = x\n  xs = ys",
            "xs, n = self.xs, 0\n for x in xs:\n  self.xs.append(x)",
            "for xs in table:\n  for x in xs:\n   table[0].append(x)",
            "return [xs.pop() for x in xs]",
        )
        right = (
            "for x in list(xs):\n  xs.append(x)",
            "for k in sorted(d):\n  del d[k]",
            "for x in xs:\n  ys.append(x)",
            "while xs:\n  ys = []\n  for x in list(xs):\n   ys.append(x)\n  xs = ys",
            "while xs:\n  ys = []\n  for x in xs:\n   ys.append(x)\n  xs = list(ys)",
            "for k, x in enumerate(xs):\n  ys[k] = [x]\n  ys[k].append(xs)",
        )
        for text in wrong:
            self.assertNotEqual(changed_walks(ast.parse("def f(self):\n " + text)), [], text)
        for text in right:
            self.assertEqual(changed_walks(ast.parse("def f(self):\n " + text)), [], text)

    def test_docstrings(self):
        for name, node in nodes((ast.FunctionDef, ast.ClassDef)):
            if node.name != "__init__":
                self.assertIsNotNone(ast.get_docstring(node), (name, node.name))


if __name__ == "__main__":
    unittest.main()
