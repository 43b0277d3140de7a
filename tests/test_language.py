"""Those rules of LANGUAGE.md that can be told from the syntax tree alone."""
import ast
import builtins
import re
import unittest
from pathlib import Path

PACKAGE = Path(__file__).resolve().parent.parent / "ratehall"
OWN_NAMES = set("""
len range enumerate zip min max sum abs sorted reversed int str bool list tuple dict set frozenset isinstance ord repr
any all divmod Exception ValueError TypeError KeyError IndexError LookupError ZeroDivisionError ArithmeticError
OverflowError RuntimeError NotImplementedError AttributeError StopIteration
""".split())
OWN_METHODS = set("""
append clear copy count endswith extend find get index insert isalnum isalpha isdigit islower isspace isupper items
join keys ljust lower lstrip partition pop remove replace reverse rfind rjust rpartition rsplit rstrip setdefault split
splitlines startswith strip update upper values zfill bit_length
""".split())
WORDS_NOWHERE = set("""
type typing typing_extensions enum Enum IntEnum StrEnum Flag IntFlag Generic Protocol ABC ABCMeta namedtuple NamedTuple
TypedDict TYPE_CHECKING abstractmethod register mro elements open input version_info with_traceback add_note
""".split())
STATEMENTS = (
    ast.Assign, ast.AugAssign, ast.If, ast.While, ast.For, ast.Return, ast.Break, ast.Continue, ast.Pass, ast.Raise,
    ast.Try, ast.Expr, ast.FunctionDef, ast.ClassDef, ast.ImportFrom,
)
NO_EXPRESSIONS = (
    ast.SetComp, ast.DictComp, ast.GeneratorExp, ast.NamedExpr, ast.Starred, ast.Await, ast.Yield, ast.YieldFrom,
    ast.Div, ast.MatMult, ast.Set,
)
WALKERS = ("zip", "enumerate", "reversed", "range")
WALKED_IN = ("list", "tuple", "dict", "sorted", "sum", "any", "all", "enumerate", "zip", "min", "max")


def texts():
    return [(path.name, path.read_text(encoding="utf-8")) for path in sorted(PACKAGE.glob("*.py"))]


def nodes(*kinds):
    return [(name, node) for name, text in texts() for node in ast.walk(ast.parse(text)) if isinstance(node, kinds)]


def bound_names(node):
    if isinstance(node, ast.Name):
        return [node.id]
    if isinstance(node, ast.arg):
        return [node.arg]
    return [node.name]


class TestLanguage(unittest.TestCase):
    def check(self, name, node, holds):
        with self.subTest(file=name, line=node.lineno):
            self.assertTrue(holds)

    def test_files(self):
        for path in PACKAGE.iterdir():
            if path.name != "__pycache__":
                self.assertRegex(path.name, r"\A[a-z_][a-z0-9_]*\.py\Z")
                self.assertNotIn(path.stem, dir(builtins))

    def test_signs_and_size(self):
        for name, text in texts():
            with self.subTest(file=name):
                self.assertRegex(text, r"\A[ -~\n]*\Z")
                self.assertLessEqual(len(text.splitlines()), 400)
                self.assertLessEqual(max([len(line) for line in text.splitlines()], default=0), 120)
                self.assertEqual(WORDS_NOWHERE & set(re.findall(r"\w+", text)), set())
        for name, node in nodes(ast.FunctionDef):
            self.check(name, node, node.end_lineno - node.lineno < 40)

    def test_the_top_of_a_file(self):
        kinds = (ast.Expr, ast.ImportFrom, ast.FunctionDef, ast.ClassDef, ast.Assign)
        for name, text in texts():
            bound = []
            for node in ast.parse(text).body:
                self.check(name, node, isinstance(node, kinds))
                if isinstance(node, ast.Assign):
                    bound += [target.id for target in node.targets]
                if isinstance(node, (ast.FunctionDef, ast.ClassDef)):
                    bound.append(node.name)
                if isinstance(node, ast.ImportFrom):
                    bound += [alias.name for alias in node.names]
            self.assertEqual(len(bound), len(set(bound)), name)

    def test_imports_are_from_the_file_that_defines_and_in_no_ring(self):
        drawn = {}
        for name, text in texts():
            drawn[name] = []
            for node in ast.parse(text).body:
                if isinstance(node, ast.ImportFrom):
                    source = node.module.split(".")[1] + ".py"
                    drawn[name].append(source)
                    tree = ast.parse((PACKAGE / source).read_text())
                    made = [part.name for part in tree.body if isinstance(part, (ast.FunctionDef, ast.ClassDef))]
                    made += [part.targets[0].id for part in tree.body if isinstance(part, ast.Assign)]
                    for alias in node.names:
                        self.check(name, node, alias.name in made and alias.asname is None)
        while drawn:
            free = [name for name in drawn if not [source for source in drawn[name] if source in drawn]]
            self.assertNotEqual(free, [])
            for name in free:
                drawn.pop(name)

    def test_statements(self):
        for name, node in nodes(ast.stmt):
            self.check(name, node, isinstance(node, STATEMENTS))
        for name, node in nodes(ast.Assign):
            self.check(name, node, len(node.targets) == 1)
            self.check(name, node, isinstance(node.targets[0], (ast.Name, ast.Attribute, ast.Subscript)))
        for name, node in nodes(ast.For, ast.While):
            self.check(name, node, not node.orelse)
        for name, node in nodes(ast.Expr):
            plain = isinstance(node.value, ast.Constant) and isinstance(node.value.value, str)
            self.check(name, node, plain or isinstance(node.value, ast.Call))

    def test_functions_and_classes(self):
        for name, node in nodes(ast.FunctionDef):
            plain = not (node.args.vararg or node.args.kwarg or node.args.kwonlyargs or node.decorator_list)
            self.check(name, node, plain and not node.returns)
        for name, node in nodes(ast.ClassDef):
            self.check(name, node, len(node.bases) <= 1 and not node.decorator_list and not node.keywords)
            for part in node.body:
                plain = isinstance(part, (ast.FunctionDef, ast.Pass)) or part is node.body[0] and isinstance(part, ast.Expr)
                self.check(name, part, plain)

    def test_expressions(self):
        for name, node in nodes(*NO_EXPRESSIONS):
            self.fail(f"{name}: {ast.dump(node)}")
        for name, node in nodes(ast.Constant):
            self.check(name, node, node.value is None or type(node.value) in (int, str, bool))
            self.check(name, node, not isinstance(node.value, str) or "%" not in node.value)
        for name, node in nodes(ast.ListComp):
            self.check(name, node, len(node.generators) == 1 and len(node.generators[0].ifs) <= 1)
        for name, node in nodes(ast.Compare):
            for operator, side in zip(node.ops, node.comparators):
                if isinstance(operator, (ast.Is, ast.IsNot)):
                    self.check(name, node, isinstance(side, ast.Constant) and side.value in (None, True, False))

    def test_names(self):
        for name, node in nodes(ast.Name):
            self.check(name, node, node.id in OWN_NAMES or node.id not in dir(builtins))
        for name, node in nodes(ast.Name, ast.arg, ast.FunctionDef, ast.ClassDef):
            for bound in bound_names(node):
                self.check(name, node, bound == "__init__" or re.match(r"[A-Za-z][A-Za-z0-9_]*\Z", bound))
        stored = [(name, node) for name, node in nodes(ast.Name) if isinstance(node.ctx, ast.Store)]
        for name, node in stored + nodes(ast.arg):
            self.check(name, node, bound_names(node)[0] not in dir(builtins))

    def test_no_local_is_called_like_a_class_or_an_import_of_its_file(self):
        for name, text in texts():
            tree = ast.parse(text)
            taken = [node.name for node in tree.body if isinstance(node, ast.ClassDef)]
            taken += [alias.name for node in tree.body if isinstance(node, ast.ImportFrom) for alias in node.names]
            for node in ast.walk(tree):
                if isinstance(node, ast.arg) or isinstance(node, ast.Name) and isinstance(node.ctx, ast.Store):
                    self.check(name, node, bound_names(node)[0] not in taken)

    def test_errors_are_taken_by_name_and_made_on_the_spot(self):
        own = [node.name for name, node in nodes(ast.ClassDef) if name == "errors.py"]
        for name, node in nodes(ast.ExceptHandler):
            self.check(name, node, isinstance(node.type, ast.Name) and node.type.id in own)
        for name, node in nodes(ast.Raise):
            made = isinstance(node.exc, ast.Call) and isinstance(node.exc.func, ast.Name)
            self.check(name, node, made and node.exc.func.id in own)

    def test_methods_and_values(self):
        methods = set()
        for name, node in nodes(ast.ClassDef):
            methods |= set(part.name for part in node.body if isinstance(part, ast.FunctionDef))
        values = set(node.attr for name, node in nodes(ast.Attribute) if isinstance(node.ctx, ast.Store))
        self.assertEqual(methods & values, set())
        for thing in ("", 0, [], {}, set(), b""):
            self.assertEqual(values & set(dir(thing)), set())
        called = [node.func for name, node in nodes(ast.Call)]
        for name, node in nodes(ast.Attribute):
            if isinstance(node.ctx, ast.Load):
                self.check(name, node, node.attr in methods | values | OWN_METHODS)
        for func in called:
            if isinstance(func, ast.Attribute):
                self.assertIn(func.attr, methods | OWN_METHODS)

    def test_walked_at_once(self):
        for name, text in texts():
            tree = ast.parse(text)
            walked = []
            for node in ast.walk(tree):
                if isinstance(node, (ast.For, ast.comprehension)):
                    walked.append(node.iter)
                if isinstance(node, ast.Call) and isinstance(node.func, ast.Name) and node.func.id in WALKED_IN:
                    walked += node.args[:1]
            for node in ast.walk(tree):
                if isinstance(node, ast.Call) and isinstance(node.func, ast.Name) and node.func.id in WALKERS:
                    self.check(name, node, node in walked)
                if isinstance(node, ast.Call) and isinstance(node.func, ast.Attribute):
                    if node.func.attr in ("items", "keys", "values"):
                        self.check(name, node, node in walked)

    def test_sets_are_not_kept(self):
        for name, text in texts():
            tree = ast.parse(text)
            used_at_once = []
            for node in ast.walk(tree):
                if isinstance(node, ast.Call) and isinstance(node.func, ast.Name) and node.func.id in ("sorted", "len"):
                    used_at_once += node.args[:1] if not node.keywords else []
                if isinstance(node, ast.Compare):
                    used_at_once += [node.left] + node.comparators
            for node in ast.walk(tree):
                if isinstance(node, ast.Call) and isinstance(node.func, ast.Name) and node.func.id in ("set", "frozenset"):
                    self.check(name, node, node in used_at_once)


if __name__ == "__main__":
    unittest.main()
