"""The form of the program: what can be checked of the rules L1 to L28 by reading its files."""

import ast
import builtins
import pathlib
import re
import unittest

ROOT = pathlib.Path(__file__).resolve().parent.parent / "flatwebs"
FILES = sorted(ROOT.rglob("*.py"))
LIBRARY = {"heapq": {"heappush", "heappop", "heapify", "heapreplace", "heappushpop"},
           "math": {"gcd", "lcm", "isqrt", "comb", "perm", "factorial"}}
BUILTINS = set("""len range enumerate zip min max sum abs sorted reversed int str bool bytes list tuple dict set
    frozenset isinstance ord repr any all divmod iter next map property classmethod staticmethod super Exception
    ValueError TypeError KeyError IndexError LookupError ZeroDivisionError ArithmeticError OverflowError RuntimeError
    NotImplementedError AttributeError StopIteration NotImplemented""".split())
METHODS = set("""append clear copy count endswith extend find get index insert isalnum isalpha isdigit islower isspace
    isupper items join keys ljust lower lstrip partition pop remove replace reverse rfind rjust rpartition rsplit
    rstrip setdefault split splitlines startswith strip update upper values zfill bit_length title capitalize swapcase
    casefold center expandtabs removeprefix removesuffix rindex isascii isdecimal isnumeric istitle isidentifier
    isprintable add discard""".split())
DOUBLE = set("""__init__ __eq__ __repr__ __str__ __len__ __enter__ __exit__ __call__ __iter__ __lt__ __le__ __gt__
    __ge__ __ne__ __add__ __sub__ __mul__ __and__ __or__ __xor__ __neg__ __invert__ __abs__ __bool__ __contains__
    __getitem__ __setitem__""".split())
BARRED = set("""register mro elements open input law version_info with_traceback add_note attrgetter breakpoint
    builtins compile copyright credits delattr dir eval exec exit gc getattr globals hasattr help id importlib license
    locals methodcaller os quit setattr type vars sys""".split())
BARRED_STARTS = ("_wall", "_pe_", "_dcw_", "_enum_", "_cm_", "_twin_re_", "_lay_", "_law_", "_stub_", "_sre",
                 "_WallAttr", "_cold", "_tuplegetter", "_outside", "_record", "_written_out", "_member_names")
BARRED_WORDS = ("typing", "enum", "Enum", "Flag", "Generic", "Protocol", "ABC", "namedtuple", "NamedTuple",
                "TypedDict", "abstractmethod", "dataclass", "overload", "contextmanager", "Meta")
STATEMENTS = (ast.Assign, ast.AugAssign, ast.If, ast.While, ast.For, ast.Return, ast.Break, ast.Continue, ast.Pass,
              ast.Raise, ast.Assert, ast.Delete, ast.With, ast.Try, ast.Expr, ast.FunctionDef, ast.ClassDef,
              ast.ImportFrom)
FUNCTIONS = (ast.FunctionDef, ast.Lambda)


class Page:
    """A file of the package, read."""

    def __init__(self, path):
        self.path = path
        self.text = path.read_text(encoding="utf-8")
        self.tree = ast.parse(self.text)
        self.nodes = list(ast.walk(self.tree))
        self.imports = [node for node in self.nodes if isinstance(node, (ast.Import, ast.ImportFrom))]
        self.functions = [node for node in self.nodes if isinstance(node, ast.FunctionDef)]
        self.classes = [node for node in self.nodes if isinstance(node, ast.ClassDef)]
        self.imported = {name.name for node in self.imports for name in node.names}
        parts = path.relative_to(ROOT.parent).with_suffix("").parts
        self.module = ".".join(part for part in parts if part != "__init__")

    def strings(self):
        docs = [node.body[0].value for node in [self.tree, *self.functions, *self.classes]
                if node.body and isinstance(node.body[0], ast.Expr) and isinstance(node.body[0].value, ast.Constant)]
        return [node.value for node in self.nodes
                if isinstance(node, ast.Constant) and isinstance(node.value, str) and node not in docs]

    def bound(self):
        """All names that are bound in the file but by imports."""
        names = [node.id for node in self.nodes if isinstance(node, ast.Name) and isinstance(node.ctx, ast.Store)]
        names += [node.name for node in self.functions + self.classes]
        for node in self.nodes:
            if isinstance(node, FUNCTIONS):
                names += parameters(node)
        return names


def parameters(node):
    told = node.args.posonlyargs + node.args.args + node.args.kwonlyargs + [node.args.vararg, node.args.kwarg]
    return [one.arg for one in told if one is not None]


def locals_of(node):
    """The parameters and local variables of a function."""
    names = [one.id for one in ast.walk(node) if isinstance(one, ast.Name) and isinstance(one.ctx, ast.Store)]
    return set(names + [name for one in ast.walk(node) if isinstance(one, FUNCTIONS) for name in parameters(one)])


def aliases(function):
    """For each name that is assigned another name in a function, all names that can mean the same value."""
    alike = {}
    for node in ast.walk(function):
        if isinstance(node, ast.Assign) and isinstance(node.value, ast.Name):
            for target in node.targets:
                if isinstance(target, ast.Name):
                    both = alike.get(target.id, {target.id}) | alike.get(node.value.id, {node.value.id})
                    alike.update({name: both for name in both})
    return alike


def gone_over(node):
    """The names that a loop goes over as they are, or by `enumerate`, `zip`, `reversed` and views."""
    if isinstance(node, ast.Name):
        return {node.id}
    if isinstance(node, (ast.BoolOp, ast.IfExp)):
        return {name for one in ast.iter_child_nodes(node) for name in gone_over(one)}
    if isinstance(node, ast.Call) and getattr(node.func, "id", "") in ("enumerate", "zip", "reversed"):
        return {name for one in node.args for name in gone_over(one)}
    if isinstance(node, ast.Call) and getattr(node.func, "attr", "") in ("items", "keys", "values"):
        return gone_over(node.func.value)
    return set()


PAGES = [Page(path) for path in FILES]
OWN = {node.name for page in PAGES for node in page.functions}
GENERATORS = {node.name for page in PAGES for node in page.functions
              if any(isinstance(one, (ast.Yield, ast.YieldFrom)) for one in ast.walk(node))}


class Form(unittest.TestCase):

    def each(self, kinds):
        for page in PAGES:
            for node in page.nodes:
                if isinstance(node, kinds):
                    yield node, f"{page.path}:{getattr(node, 'lineno', 0)}"

    def test_files(self):
        self.assertTrue(PAGES)
        for path in ROOT.rglob("*"):
            if "__pycache__" in path.parts:
                continue
            self.assertTrue(path.is_dir() or path.suffix == ".py", path)
            self.assertRegex(path.stem, r"^([a-z][a-z0-9_]*|__init__|__main__)$")
            if path.is_dir():
                self.assertTrue((path / "__init__.py").exists(), path)
                self.assertFalse(path.with_suffix(".py").exists(), path)
            self.assertNotIn(path.stem, dir(builtins))
            self.assertFalse(path.stem.startswith(("test", "law_", "site")), path)

    def test_sizes_and_characters(self):
        for page in PAGES:
            lines = page.text.split("\n")
            self.assertLess(len(lines), 400, page.path)
            self.assertTrue(all(len(line) <= 120 for line in lines), page.path)
            self.assertTrue(all(mark == "\n" or " " <= mark <= "~" for mark in page.text), page.path)
            for node in page.functions:
                self.assertLessEqual(node.end_lineno - node.lineno + 1, 40, node.name)

    def test_imports(self):
        known = {page.module: {node.name for node in page.functions + page.classes}
                 | {name.id for node in page.tree.body if isinstance(node, ast.Assign) for name in node.targets}
                 for page in PAGES}
        for page in PAGES:
            self.assertEqual([node for node in page.imports if node in page.tree.body], page.imports)
            first = [k for k, node in enumerate(page.tree.body) if not isinstance(node, (ast.ImportFrom, ast.Expr))]
            for node in page.imports:
                self.assertIsInstance(node, ast.ImportFrom)
                self.assertTrue(not first or page.tree.body.index(node) < first[0])
                self.assertEqual((node.level, [name.asname for name in node.names]), (0, [None] * len(node.names)))
                for name in node.names:
                    self.assertIn(name.name, LIBRARY.get(node.module) or known.get(node.module, ()), page.path)
            names = [name.name for node in page.imports for name in node.names]
            self.assertEqual(len(names), len(set(names)), page.path)
            used = {node.id for node in page.nodes if isinstance(node, ast.Name)}
            self.assertTrue(set(names) <= used, (page.path, set(names) - used))

    def test_no_import_in_a_circle(self):
        reached = {page.module: {node.module for node in page.imports} for page in PAGES}
        for _ in reached:
            reached = {one: set().union(to, *[reached.get(other, ()) for other in to]) for one, to in reached.items()}
        self.assertEqual([one for one, to in reached.items() if one in to], [])

    def test_module_level(self):
        for page in PAGES:
            names = list(page.imported)
            for k, node in enumerate(page.tree.body):
                is_doc = k == 0 and isinstance(node, ast.Expr) and isinstance(node.value, ast.Constant)
                self.assertTrue(is_doc or isinstance(node, (ast.ImportFrom, ast.FunctionDef, ast.ClassDef, ast.Assign)))
                if isinstance(node, ast.Assign):
                    self.assertEqual([type(name) for name in node.targets], [ast.Name])
                    ok = (ast.Constant, ast.Tuple, ast.Name, ast.BinOp, ast.UnaryOp, ast.operator, ast.expr_context)
                    self.assertTrue(all(isinstance(one, ok) for one in ast.walk(node.value)), page.path)
                names += [name.id for name in getattr(node, "targets", [])]
                names += [node.name] if isinstance(node, (ast.FunctionDef, ast.ClassDef)) else []
            self.assertEqual(len(names), len(set(names)), page.path)
            self.assertTrue(all(ast.get_docstring(node) for node in page.tree.body
                                if isinstance(node, (ast.FunctionDef, ast.ClassDef))), page.path)

    def test_statements(self):
        for node, where in self.each(ast.stmt):
            self.assertIsInstance(node, STATEMENTS, where)
        for node, where in self.each((ast.GeneratorExp, ast.Await, ast.AnnAssign, ast.Set, ast.Starred, ast.Div)):
            self.assertIsInstance(node, ast.Starred, where)
        for node, where in self.each(ast.FunctionDef):
            told = [getattr(one, "id", getattr(one, "attr", "")) for one in node.decorator_list]
            self.assertTrue(set(told) <= {"property", "classmethod", "staticmethod"}, where)
            self.assertIsNone(node.returns, where)
            self.assertEqual([ast.dump(one) for one in node.args.defaults if not isinstance(one, ast.Constant)], [])
        for node, where in self.each(ast.ExceptHandler):
            self.assertIsInstance(node.type, ast.Name, where)
            self.assertTrue(node.type.id.startswith(("Invalid", "Undrawn", "TooMany", "KeyError")), where)

    def test_names(self):
        for page in PAGES:
            classes = {node.name for node in page.classes}
            for name in page.bound():
                self.assertRegex(name, r"^(_?[A-Za-z][A-Za-z0-9_]*|_|__[a-z]+__)$", page.path)
                self.assertTrue(name in DOUBLE or not name.startswith("__"), (page.path, name))
                self.assertFalse(name.startswith(BARRED_STARTS), (page.path, name))
                self.assertNotIn(name, BARRED, page.path)
            for node in page.functions:
                self.assertFalse(locals_of(node) & (page.imported | classes | set(dir(builtins))), node.name)
            own = {node.name for node in page.tree.body if isinstance(node, (ast.FunctionDef, ast.ClassDef))}
            self.assertFalse(own & set(dir(builtins)), page.path)
            reads = {node.id for node in page.nodes if isinstance(node, ast.Name) and isinstance(node.ctx, ast.Load)}
            self.assertTrue(reads & set(dir(builtins)) <= BUILTINS, (page.path, reads & set(dir(builtins)) - BUILTINS))
            self.assertNotIn("_", reads)
            self.assertFalse(reads & {"product", "combinations", "permutations"}, page.path)

    def test_words(self):
        for page in PAGES:
            for text in page.strings():
                self.assertNotIn("%", text)
                self.assertFalse(set(re.findall(r"\w+", text)) & {*BARRED_WORDS, "type", "getattr"}, page.path)
            self.assertFalse(re.findall(r"\\[^nt\\\"']", page.text), page.path)
            self.assertNotRegex(page.text, r"\b(_wall|_WallAttr)\b|\(type\)|Meta|metaclass=")

    def test_attributes(self):
        kept = {node.attr for node, _ in self.each(ast.Attribute) if isinstance(node.ctx, ast.Store)}
        for node, where in self.each(ast.Attribute):
            self.assertIn(node.attr, METHODS | OWN | kept, where)
        for node, where in self.each(ast.Call):
            if isinstance(node.func, ast.Attribute):
                self.assertIn(node.func.attr, METHODS | OWN, where)
            stars = [one.value for one in node.args if isinstance(one, ast.Starred)]
            self.assertTrue(all(isinstance(one, (ast.Name, ast.Attribute)) for one in stars), where)
            keywords = {one.arg for one in node.keywords}
            self.assertTrue(keywords <= {"key", "default", "reverse", "start"}, where)

    def test_operations(self):
        for node, where in self.each(ast.Compare):
            for sign, other in zip(node.ops, node.comparators):
                if isinstance(sign, (ast.Is, ast.IsNot)):
                    self.assertIsInstance(other, ast.Constant, where)
        for node, where in self.each(ast.BinOp):
            if isinstance(node.op, ast.Pow):
                self.assertIsInstance(node.right, ast.Constant, where)
        for node, where in self.each(ast.AugAssign):
            self.assertIsInstance(node.value, ast.Constant, where)
            self.assertIsInstance(node.target, ast.Name, where)
        for node, where in self.each(ast.Constant):
            self.assertNotIsInstance(node.value, (float, complex, bytes), where)

    def test_sets_and_generators(self):
        for page in PAGES:
            above = {child: node for node in page.nodes for child in ast.iter_child_nodes(node)}
            for node in page.nodes:
                called = node.func.id if isinstance(node, ast.Call) and isinstance(node.func, ast.Name) else None
                if called == "set" or isinstance(node, ast.SetComp):
                    self.assertIsInstance(above[node], ast.Call, page.path)
                    self.assertIn(above[node].func.id, ("sorted", "len"), page.path)
                if called in GENERATORS:
                    self.assertIsInstance(above[node], (ast.For, ast.YieldFrom, ast.comprehension), page.path)
                    self.assertTrue(all(isinstance(one, (ast.Name, ast.Attribute)) for one in node.args), page.path)
                if called in ("zip", "enumerate", "range", "reversed"):
                    to = above[node]
                    taker = getattr(getattr(to, "func", None), "id", "")
                    fine = taker in ("list", "tuple", "dict", "sorted", "enumerate", "zip")
                    self.assertTrue(fine or isinstance(to, (ast.For, ast.comprehension)), page.path)
        names = [node.name for page in PAGES for node in page.functions]
        self.assertEqual([name for name in GENERATORS if names.count(name) > 1 or name in METHODS], [])

    def test_operators_change_nothing(self):
        # L5: what an operator or a property calls changes only lists and dicts that it made itself.
        starts = [node for page in PAGES for node in page.functions
                  if node.name in DOUBLE - {"__init__", "__enter__", "__exit__"} or [one for one in node.decorator_list if one.id == "property"]]
        reached = {}
        while starts:
            node = starts.pop()
            if node in reached:
                continue
            reached[node] = True
            for call in [one for one in ast.walk(node) if isinstance(one, (ast.Call, ast.Attribute))]:
                func = getattr(call, "func", call)
                name = getattr(func, "id", getattr(func, "attr", ""))
                starts += [one for page in PAGES for one in page.functions if one.name == name]
                starts += [one for page in PAGES for kind in page.classes if kind.name == name
                           for one in kind.body if getattr(one, "name", "") == "__init__"]
        self.assertGreater(len(reached), 20)
        for node in reached:
            self.changes_only_its_own(node)

    def changes_only_its_own(self, node):
        made = set()
        for one in ast.walk(node):
            if isinstance(one, ast.Assign) and isinstance(one.targets[0], ast.Name):
                called = getattr(getattr(one.value, "func", None), "id", "")
                if isinstance(one.value, (ast.List, ast.Dict, ast.ListComp)) or called in ("list", "dict", "sorted"):
                    made.add(one.targets[0].id)
        for one in ast.walk(node):
            if isinstance(one, (ast.Subscript, ast.Attribute)) and isinstance(one.ctx, ast.Store):
                if node.name != "__init__":
                    self.assertIn(getattr(one.value, "id", ""), made, node.name)
            if isinstance(one, ast.Call) and isinstance(one.func, ast.Attribute):
                if one.func.attr in ("append", "extend", "insert", "pop", "remove", "setdefault", "update", "clear",
                                     "add", "discard", "reverse", "sort"):
                    self.assertIn(getattr(one.func.value, "id", ""), made, node.name)
            if isinstance(one, ast.Call) and isinstance(one.func, ast.Name):
                self.assertNotIn(one.func.id, locals_of(node) - {"cls"}, node.name)

    def test_loops_leave_what_they_go_over(self):
        # L23: also where what a loop goes over gets another name, before the loop or behind it.
        changing = ("append", "extend", "insert", "pop", "remove", "setdefault", "update", "clear", "reverse", "sort")
        for page in PAGES:
            for function in page.functions:
                alike = aliases(function)
                for loop in [one for one in ast.walk(function) if isinstance(one, ast.For)]:
                    over = {name for one in gone_over(loop.iter) for name in alike.get(one, {one})}
                    for one in [each for row in loop.body for each in ast.walk(row)]:
                        changed = None
                        if isinstance(one, ast.Call) and getattr(one.func, "attr", "") in changing:
                            changed = one.func.value
                        if isinstance(one, ast.Subscript) and not isinstance(one.ctx, ast.Load):
                            changed = one.value
                        self.assertNotIn(getattr(changed, "id", None), over, (page.path, loop.lineno))

    def test_double_underscore_methods(self):
        for node, where in self.each(ast.FunctionDef):
            if node.name.startswith("__"):
                self.assertIn(node.name, DOUBLE, where)
            if node.name in ("__eq__", "__str__", "__len__", "__iter__"):
                self.assertEqual([type(one) for one in node.body], [ast.Return], where)
            if node.name == "__exit__":
                # L6: attributes are set to attributes, and what is told of an error is not read.
                for row in node.body:
                    self.assertIsInstance(row, ast.Assign, where)
                    self.assertEqual({type(one) for one in [*row.targets, row.value]}, {ast.Attribute}, where)
                reads = {one.id for one in ast.walk(node) if isinstance(one, ast.Name)}
                self.assertEqual(reads, {"self"}, where)


if __name__ == "__main__":
    unittest.main()
