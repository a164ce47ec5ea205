"""The rules of the language that can be seen in the package's files."""

import ast
import builtins
import unittest
from pathlib import Path

PACKAGE = Path(__file__).resolve().parent.parent / "seaplace"
FILES = sorted(PACKAGE.glob("*.py"))
BUILTINS = set(
    "len range enumerate zip min max sum abs sorted reversed int str bool list tuple dict set isinstance ord repr any "
    "all map type ValueError LookupError RuntimeError".split()
)
METHODS = set(
    "append clear copy count endswith extend find get index insert items join keys pop remove replace reverse "
    "setdefault split startswith strip update values add discard bit_length isascii "
    "isalpha islower isdigit".split()
)
BARRED = set("mro elements open input law eval exec compile globals locals vars dir help id type super".split())
STATEMENTS = (
    ast.FunctionDef, ast.ClassDef, ast.Assign, ast.AugAssign, ast.If, ast.While, ast.For, ast.Return, ast.Break,
    ast.Continue, ast.Pass, ast.Raise, ast.Delete, ast.Expr, ast.ImportFrom, ast.Try,
)


def names_told(tree):
    """What a file binds at its own level."""
    told = []
    for row in tree.body:
        if isinstance(row, (ast.FunctionDef, ast.ClassDef)):
            told.append(row.name)
        elif isinstance(row, ast.Assign):
            told.append(row.targets[0].id)
        elif isinstance(row, ast.ImportFrom):
            told.extend(name.name for name in row.names)
    return told


def bound_within(tree):
    """All names of parameters and local variables."""
    found = set()
    for thing in ast.walk(tree):
        if isinstance(thing, ast.FunctionDef):
            for part in ast.walk(thing):
                if isinstance(part, ast.arg):
                    found.add(part.arg)
                elif isinstance(part, ast.Name) and not isinstance(part.ctx, ast.Load):
                    found.add(part.id)
    return found


def imports_of(tree):
    """The files of the package and the names that a file imports."""
    return [(row.module, [name.name for name in row.names]) for row in tree.body if isinstance(row, ast.ImportFrom)]


class Language(unittest.TestCase):
    def each(self):
        return [(path.read_text(), ast.parse(path.read_text(), path.name)) for path in FILES]

    def test_package_holds_files_alone(self):
        held = [path.name for path in PACKAGE.iterdir() if path.name != "__pycache__"]
        self.assertEqual(sorted(held), [path.name for path in FILES])
        self.assertIn("__init__.py", held)

    def test_sizes_and_signs(self):
        for text, tree in self.each():
            rows = text.split("\n")
            self.assertLessEqual(len(rows), 400)
            self.assertLessEqual(max(len(row) for row in rows), 120)
            self.assertTrue(all(sign == "\n" or " " <= sign <= "~" for sign in text))
            for thing in ast.walk(tree):
                if isinstance(thing, ast.FunctionDef):
                    self.assertLessEqual(thing.end_lineno - thing.lineno + 1, 40, thing.name)

    def test_statements_and_expressions(self):
        barred = (ast.Lambda, ast.GeneratorExp, ast.Yield, ast.Await, ast.NamedExpr, ast.Div)
        for _, tree in self.each():
            for thing in ast.walk(tree):
                if isinstance(thing, ast.stmt):
                    self.assertIsInstance(thing, STATEMENTS)
                self.assertNotIsInstance(thing, barred)
                self.assertFalse(getattr(thing, "decorator_list", []))
                if isinstance(thing, ast.Constant):
                    self.assertNotIsInstance(thing.value, float)
                    self.assertNotIn("%", str(thing.value))
                if isinstance(thing, ast.FormattedValue):
                    self.assertFalse([part for part in ast.walk(thing.value) if isinstance(part, ast.JoinedStr)])

    def test_imports(self):
        told = {path.stem: names_told(ast.parse(path.read_text())) for path in FILES}
        for _, tree in self.each():
            names = names_told(tree)
            self.assertEqual(len(names), len(set(names)))
            for module, wanted in imports_of(tree):
                package, stem = module.split(".")
                self.assertEqual(package, "seaplace")
                own = [row for row in ast.parse((PACKAGE / f"{stem}.py").read_text()).body]
                defined = names_told(ast.Module([row for row in own if not isinstance(row, ast.ImportFrom)], []))
                self.assertLessEqual(set(wanted), set(defined))
                self.assertIn(stem, told)
                used = {thing.id for thing in ast.walk(tree) if isinstance(thing, ast.Name)}
                self.assertLessEqual(set(wanted), used)

    def test_no_ring_of_imports(self):
        asks = {}
        for path in FILES:
            asks[path.stem] = [module.split(".")[1] for module, _ in imports_of(ast.parse(path.read_text()))]
        left = dict(asks)
        while left:
            free = [stem for stem in left if not any(one in left for one in left[stem])]
            self.assertTrue(free, sorted(left))
            for stem in free:
                del left[stem]

    def test_names(self):
        for _, tree in self.each():
            imported = {name for _, names in imports_of(tree) for name in names}
            classes = {row.name for row in tree.body if isinstance(row, ast.ClassDef)}
            bound = bound_within(tree)
            self.assertFalse(bound & (imported | classes))
            self.assertFalse((bound | set(names_told(tree))) & (set(dir(builtins)) | BARRED))

    def test_calls(self):
        methods = set(METHODS)
        for _, tree in self.each():
            for row in tree.body:
                if isinstance(row, ast.ClassDef):
                    methods |= {part.name for part in row.body if isinstance(part, ast.FunctionDef)}
        for _, tree in self.each():
            own = set(names_told(tree)) | bound_within(tree)
            for thing in ast.walk(tree):
                if isinstance(thing, ast.Call):
                    if isinstance(thing.func, ast.Attribute):
                        self.assertIn(thing.func.attr, methods)
                    else:
                        self.assertIn(thing.func.id, own | BUILTINS)

    def test_names_of_python_are_allowed_ones(self):
        for _, tree in self.each():
            for thing in ast.walk(tree):
                if isinstance(thing, ast.Name) and thing.id in dir(builtins):
                    self.assertIn(thing.id, BUILTINS)

    def test_tables_are_not_passed_on(self):
        for _, tree in self.each():
            tables = {
                row.targets[0].id for row in tree.body
                if isinstance(row, ast.Assign) and isinstance(row.value, (ast.Dict, ast.List))
            }
            for thing in ast.walk(tree):
                if isinstance(thing, ast.Call):
                    passed = {part.id for part in thing.args if isinstance(part, ast.Name)}
                    self.assertFalse(passed & tables)


if __name__ == "__main__":
    unittest.main()
