"""The form of the package's own files: what can be seen of LANGUAGE.md without running them."""

import ast
import builtins
import pathlib
import re
import unittest

PACKAGE = pathlib.Path(__file__).resolve().parent.parent / "pickalike"
NAMES = set(
    "len range enumerate zip min max sum abs sorted reversed int str bool bytes list tuple dict set isinstance ord "
    "repr any all divmod Exception ValueError TypeError KeyError IndexError LookupError ZeroDivisionError "
    "ArithmeticError OverflowError RuntimeError NotImplementedError AttributeError StopIteration".split()
)
METHODS = set(
    "append clear copy count endswith extend find get index insert isalnum isalpha isdigit islower isspace isupper "
    "items join keys ljust lower lstrip partition pop remove replace reverse rfind rjust rpartition rsplit rstrip "
    "setdefault split splitlines startswith strip update upper values zfill bit_length sort add discard "
    "__init__".split()
)
UNDERSCORED = ("__init__", "__eq__", "__repr__", "__str__", "__len__")
OUT = (
    ast.With, ast.Match, ast.Global, ast.Nonlocal, ast.Yield, ast.YieldFrom, ast.Await, ast.AsyncFunctionDef,
    ast.AsyncFor, ast.AsyncWith, ast.GeneratorExp, ast.NamedExpr, ast.Div, ast.MatMult, ast.Import, ast.TryStar,
)
WORDS = re.compile(
    r"\b(type|typing|typing_extensions|enum|Enum|IntEnum|StrEnum|Flag|IntFlag|Generic|Protocol|ABC|ABCMeta|namedtuple"
    r"|NamedTuple|TypedDict|TYPE_CHECKING|abstractmethod)\b|dataclass|overload|contextmanager"
)


def files():
    return sorted(PACKAGE.rglob("*.py"))


def nodes():
    """Each file's name and each thing written in it."""
    for file in files():
        for node in ast.walk(ast.parse(file.read_text("utf-8"))):
            yield f"{file.name}:{getattr(node, 'lineno', 0)}", node


class FormTest(unittest.TestCase):
    def test_nothing_else_lies_in_the_package(self):
        found = [path for path in PACKAGE.rglob("*") if "__pycache__" not in path.parts and path.suffix != ".pyc"]
        self.assertEqual([path.name for path in found if path.suffix != ".py"], [])
        for path in found:
            self.assertRegex(path.stem, r"^([a-z][a-z0-9_]*|__init__|__main__)$")
        self.assertIn(PACKAGE / "__init__.py", found)

    def test_signs_and_sizes(self):
        for file in files():
            text = file.read_text("utf-8")
            self.assertRegex(text, r"\A[ -~\n]*\Z", file.name)
            self.assertIsNone(WORDS.search(text), file.name)
            rows = text.split("\n")
            self.assertLessEqual(len(rows), 400, file.name)
            self.assertLessEqual(max(len(row) for row in rows), 120, file.name)

    def test_defs(self):
        for where, node in nodes():
            if not isinstance(node, ast.FunctionDef):
                continue
            self.assertLessEqual(node.end_lineno - node.lineno + 1, 40, where)
            self.assertEqual(node.decorator_list, [], where)
            self.assertIsNone(node.args.vararg or node.args.kwarg, where)
            self.assertEqual(node.args.posonlyargs, [], where)
            if node.name not in UNDERSCORED:
                self.assertFalse(node.name.startswith("_"), where)

    def test_classes(self):
        for where, node in nodes():
            if isinstance(node, ast.ClassDef):
                self.assertLessEqual(len(node.bases), 1, where)
                self.assertEqual(node.decorator_list + node.keywords, [], where)

    def test_imports_are_of_the_package_alone_and_from_the_file_that_defines(self):
        for where, node in nodes():
            if isinstance(node, ast.ImportFrom):
                self.assertEqual(node.level, 0, where)
                folder, *rest = node.module.split(".")
                self.assertEqual(folder, "pickalike", where)
                source = (PACKAGE / "/".join(rest)).with_suffix(".py").read_text("utf-8")
                for alias in node.names:
                    self.assertRegex(source, rf"(?m)^(def |class )?{alias.name}\b", where)

    def test_what_is_out(self):
        for where, node in nodes():
            self.assertNotIsInstance(node, OUT, where)
            if isinstance(node, ast.Constant):
                self.assertNotIsInstance(node.value, (float, complex), where)
                self.assertNotIn("%", str(node.value), where)
            if isinstance(node, (ast.For, ast.While)):
                self.assertEqual(node.orelse, [], where)
            if isinstance(node, ast.FormattedValue):
                self.assertIsNone(node.format_spec, where)
            if isinstance(node, ast.Starred):
                self.assertIsInstance(node.ctx, ast.Store, where)
            if isinstance(node, ast.Compare) and any(isinstance(op, (ast.Is, ast.IsNot)) for op in node.ops):
                self.assertTrue(all(getattr(one, "value", 0) in (None, True, False) for one in node.comparators), where)

    def test_names(self):
        python = set(dir(builtins))
        for where, node in nodes():
            if isinstance(node, ast.Name):
                self.assertFalse(node.id.startswith("_"), where)
                if isinstance(node.ctx, ast.Load):
                    self.assertTrue(node.id not in python or node.id in NAMES, (where, node.id))
                else:
                    self.assertNotIn(node.id, python, where)
            if isinstance(node, (ast.arg, ast.alias)):
                name = node.arg if isinstance(node, ast.arg) else node.asname or node.name
                self.assertFalse(name in python or name.startswith("_"), (where, name))

    def test_names_of_a_files_top(self):
        for file in files():
            tree = ast.parse(file.read_text("utf-8"))
            drawn = [alias.name for node in tree.body if isinstance(node, ast.ImportFrom) for alias in node.names]
            kept = [target.id for node in tree.body if isinstance(node, ast.Assign) for target in node.targets]
            made = [node.name for node in tree.body if isinstance(node, (ast.FunctionDef, ast.ClassDef))]
            self.assertEqual(len(drawn + kept + made), len(set(drawn + kept + made)), file.name)
            for node in [inner for outer in tree.body if isinstance(outer, (ast.FunctionDef, ast.ClassDef))
                         for inner in ast.walk(outer)]:
                # The interface has a parameter that is called like a def beside it: the kind that is cut.
                if isinstance(node, ast.arg) and (file.stem, node.arg) != ("kinds", "kind"):
                    self.assertNotIn(node.arg, drawn + kept + made, file.name)
                if isinstance(node, ast.Name) and isinstance(node.ctx, ast.Store):
                    self.assertNotIn(node.id, drawn + kept + made, file.name)

    def test_no_two_files_draw_from_one_another(self):
        drawn = {}
        for file in files():
            tree = ast.parse(file.read_text("utf-8"))
            drawn[file.stem] = [node.module.split(".")[-1] for node in tree.body if isinstance(node, ast.ImportFrom)]
        while drawn:
            free = [name for name, rest in drawn.items() if not any(other in drawn for other in rest)]
            self.assertNotEqual(free, [], drawn)
            for name in free:
                del drawn[name]

    def test_walked_at_once(self):
        for where, node in nodes():
            if isinstance(node, ast.Assign) and isinstance(node.value, ast.Call):
                call = node.value.func
                name = call.id if isinstance(call, ast.Name) else call.attr
                self.assertNotIn(name, ("zip", "enumerate", "reversed", "range", "items", "keys", "values"), where)

    def test_methods(self):
        own = {node.name for where, node in nodes() if isinstance(node, ast.FunctionDef)}
        for where, node in nodes():
            if isinstance(node, ast.Call) and isinstance(node.func, ast.Attribute):
                self.assertIn(node.func.attr, METHODS | own, where)


if __name__ == "__main__":
    unittest.main()
