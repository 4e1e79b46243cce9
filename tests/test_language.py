"""The package keeps to the small part of Python that it is written in, as far as a walk of its code can see."""

import ast
import builtins
import pathlib
import re
import unittest

PACKAGE = pathlib.Path(__file__).resolve().parent.parent / "crossings"
FILES = sorted(PACKAGE.glob("*.py"))

STATEMENTS = (ast.Assign, ast.AugAssign, ast.If, ast.While, ast.For, ast.Return, ast.Break, ast.Continue, ast.Pass,
              ast.Raise, ast.Try, ast.Expr, ast.FunctionDef, ast.ClassDef, ast.ImportFrom)
NOT_EXPRESSIONS = (ast.SetComp, ast.DictComp, ast.GeneratorExp, ast.NamedExpr, ast.Starred, ast.Yield, ast.YieldFrom,
                   ast.Await, ast.Div, ast.MatMult)
OWN_NAMES = """len range enumerate zip min max sum abs sorted reversed int str bool list tuple dict set frozenset
isinstance ord repr any all divmod Exception ValueError TypeError KeyError IndexError LookupError ZeroDivisionError
ArithmeticError OverflowError RuntimeError NotImplementedError AttributeError StopIteration""".split()
METHODS = """append clear copy count endswith extend find get index insert isalnum isalpha isdigit islower isspace
isupper items join keys ljust lower lstrip partition pop remove replace reverse rfind rjust rpartition rsplit rstrip
setdefault split splitlines startswith strip update upper values zfill bit_length""".split()
WORDS = """type typing typing_extensions enum Enum IntEnum StrEnum Flag IntFlag Generic Protocol ABC ABCMeta namedtuple
NamedTuple TypedDict TYPE_CHECKING abstractmethod""".split()
UNUSED = """register mro elements open input version_info with_traceback add_note attrgetter breakpoint builtins compile
delattr dir eval exec exit gc getattr globals hasattr help id importlib locals methodcaller os quit setattr super sys
vars print""".split()


def nodes(kind=ast.AST):
    for file in FILES:
        for node in ast.walk(ast.parse(file.read_text(encoding="ascii"))):
            if isinstance(node, kind):
                yield file.name, node


def bound_names(tree):
    for node in ast.walk(tree):
        if isinstance(node, ast.arg):
            yield node.arg
        elif isinstance(node, ast.Name) and isinstance(node.ctx, ast.Store):
            yield node.id
        elif isinstance(node, (ast.FunctionDef, ast.ClassDef)):
            yield node.name
        elif isinstance(node, ast.ExceptHandler) and node.name:
            yield node.name


class Language(unittest.TestCase):

    def test_files(self):
        for path in PACKAGE.iterdir():
            if path.name != "__pycache__":
                self.assertRegex(path.name, r"^(__init__|[a-z][a-z0-9_]*)\.py$")

    def test_sizes_and_signs(self):
        for file in FILES:
            text = file.read_text(encoding="ascii")
            self.assertRegex(text, r"\A[ -~\n]*\Z", file.name)
            self.assertLessEqual(len(text.splitlines()), 400, file.name)
            self.assertLessEqual(max(len(line) for line in text.splitlines()), 120, file.name)
            self.assertIsNone(re.search(r"dataclass|overload|contextmanager", text), file.name)
            self.assertEqual([word for word in re.findall(r"\w+", text) if word in WORDS], [], file.name)
        for name, node in nodes(ast.FunctionDef):
            self.assertLessEqual(node.end_lineno - node.lineno + 1, 40, (name, node.name))

    def test_the_top_of_a_file(self):
        for file in FILES:
            tree = ast.parse(file.read_text(encoding="ascii"))
            self.assertIsNotNone(ast.get_docstring(tree), file.name)
            for node in tree.body[1:]:
                self.assertIsInstance(node, (ast.ImportFrom, ast.FunctionDef, ast.ClassDef, ast.Assign), file.name)
                if isinstance(node, ast.Assign):
                    ast.literal_eval(node.value)

    def test_imports_are_the_packages_own(self):
        drawn = {}
        for name, node in nodes(ast.ImportFrom):
            self.assertEqual(node.level, 0)
            self.assertRegex(node.module, r"^crossings\.[a-z]+$")
            defining = ast.parse((PACKAGE / (node.module.split(".")[1] + ".py")).read_text(encoding="ascii"))
            there = [one.name for one in defining.body if isinstance(one, (ast.FunctionDef, ast.ClassDef))]
            for alias in node.names:
                self.assertIsNone(alias.asname)
                self.assertIn(alias.name, there, name)
            drawn.setdefault(name, []).append(node.module.split(".")[1] + ".py")
        self.assertNotIn("__init__.py", drawn)
        left = dict(drawn)
        while left:
            free = [name for name in left if not set(left[name]) & set(left)]
            self.assertNotEqual(free, [], "files draw from one another")
            for name in free:
                del left[name]

    def test_statements(self):
        for name, node in nodes(ast.stmt):
            self.assertIsInstance(node, STATEMENTS, (name, node.lineno))
            if isinstance(node, (ast.While, ast.For)):
                self.assertEqual(node.orelse, [], (name, node.lineno))
            if isinstance(node, ast.Assign):
                self.assertEqual(len(node.targets), 1, (name, node.lineno))
            if isinstance(node, ast.Try):
                self.assertEqual(node.finalbody, [], (name, node.lineno))
                for handler in node.handlers:
                    self.assertIsInstance(handler.type, ast.Name)
                    self.assertNotIn(handler.type.id, ("Exception", "TypeError", "ValueError"))

    def test_expressions(self):
        for name, node in nodes():
            self.assertNotIsInstance(node, NOT_EXPRESSIONS, (name, getattr(node, "lineno", 0)))
            if isinstance(node, ast.Constant):
                self.assertIn(type(node.value), (int, str, bool, type(None)), (name, node.lineno))
                if isinstance(node.value, str):
                    self.assertNotIn("%", node.value)
            if isinstance(node, ast.ListComp):
                self.assertEqual(len(node.generators), 1)
                self.assertLessEqual(len(node.generators[0].ifs), 1)
            if isinstance(node, ast.Compare) and any(isinstance(op, (ast.Is, ast.IsNot)) for op in node.ops):
                self.assertIsInstance(node.comparators[0], ast.Constant, (name, node.lineno))

    def test_functions(self):
        for name, node in nodes(ast.FunctionDef):
            place = (name, node.lineno)
            self.assertEqual(node.decorator_list, [], place)
            self.assertIsNone(node.returns, place)
            self.assertIsNone(node.args.vararg, place)
            self.assertIsNone(node.args.kwarg, place)
            self.assertEqual(node.args.kwonlyargs, [], place)
            self.assertEqual([one for one in node.args.args if one.annotation], [], place)

    def test_names(self):
        for file in FILES:
            tree = ast.parse(file.read_text(encoding="ascii"))
            imported = [alias.name for node in tree.body if isinstance(node, ast.ImportFrom) for alias in node.names]
            bound = list(bound_names(tree))
            for one in bound:
                self.assertRegex(one, r"^([A-Za-z][A-Za-z0-9_]*|__init__)$", file.name)
                self.assertFalse(one != "__init__" and hasattr(builtins, one), (file.name, one))
                self.assertNotIn(one, imported, file.name)
            top = [node.name for node in tree.body if isinstance(node, (ast.FunctionDef, ast.ClassDef))]
            self.assertEqual(len(top), len(set(top)), file.name)
            for node in ast.walk(tree):
                if isinstance(node, ast.Name):
                    self.assertNotIn(node.id, UNUSED, file.name)
                    self.assertTrue(node.id in OWN_NAMES or node.id in bound or node.id in imported,
                                    (file.name, node.id))

    def test_methods_and_values(self):
        methods = [one.name for name, node in nodes(ast.ClassDef) for one in node.body if one.__class__ is ast.FunctionDef]
        values = {node.attr for name, node in nodes(ast.Attribute) if isinstance(node.ctx, ast.Store)}
        self.assertEqual(values & set(methods), set())
        taken = {attr for kind in (str, int, list, dict, set, bytes, tuple) for attr in dir(kind)}
        self.assertEqual((values | set(methods) - {"__init__"}) & taken, set())
        for name, node in nodes(ast.Call):
            if isinstance(node.func, ast.Attribute):
                self.assertIn(node.func.attr, METHODS + methods, (name, node.lineno))

    def test_sets_are_used_on_the_spot(self):
        for name, node in nodes(ast.Call):
            if isinstance(node.func, ast.Name) and node.func.id not in ("sorted", "len"):
                for one in node.args:
                    self.assertFalse(isinstance(one, ast.Call) and isinstance(one.func, ast.Name)
                                     and one.func.id == "set", (name, node.lineno))
        for name, node in nodes(ast.Assign):
            self.assertFalse(isinstance(node.value, ast.Set), (name, node.lineno))

    def test_what_a_loop_walks_is_not_changed_in_it(self):
        changing = ("append", "clear", "extend", "insert", "pop", "remove", "reverse", "setdefault", "update")
        for name, loop in nodes(ast.For):
            walked = {ast.dump(node) for node in ast.walk(loop.iter) if isinstance(node, (ast.Name, ast.Attribute))}
            for node in [one for row in loop.body for one in ast.walk(row)]:
                target = None
                if isinstance(node, ast.Call) and isinstance(node.func, ast.Attribute) and node.func.attr in changing:
                    target = node.func.value
                elif isinstance(node, ast.Subscript) and isinstance(node.ctx, ast.Store):
                    target = node.value
                if target is not None:
                    self.assertNotIn(ast.dump(target), walked, (name, node.lineno))


if __name__ == "__main__":
    unittest.main()
