"""The rules of the language that can be looked at one by one: sizes, signs, imports, names, words."""

import ast
import builtins
import pathlib
import unittest

PACKAGE = pathlib.Path(__file__).resolve().parent.parent / "landweave"
FILES = sorted(PACKAGE.rglob("*.py"))
BUILTINS = set((
    "len range enumerate zip min max sum abs sorted reversed int str bool list tuple dict set "
    "isinstance ord repr any all divmod iter next map super "
    "ValueError KeyError IndexError LookupError ZeroDivisionError NotImplemented").split())
LIBRARY = {"heapq": {"heappush", "heappop", "heapify"}, "math": {"gcd", "lcm", "isqrt"},
           "collections": {"defaultdict"}, "itertools": {"chain", "accumulate", "pairwise"}}
BARRED = (ast.Global, ast.AsyncFunctionDef, ast.Await, ast.AsyncFor, ast.AsyncWith, ast.Div, ast.Import)
WORDS = set("type typing enum Enum ABC namedtuple overload dataclass register mro elements law".split())


def trees():
    return [(path, ast.parse(path.read_text())) for path in FILES]


def bound_names(tree):
    """All names that a file gives to something of its own."""
    for node in ast.walk(tree):
        if isinstance(node, ast.Name) and isinstance(node.ctx, ast.Store):
            yield node.id
        elif isinstance(node, (ast.FunctionDef, ast.ClassDef)):
            yield node.name
        elif isinstance(node, ast.arg):
            yield node.arg


class Language(unittest.TestCase):
    def test_files(self):
        self.assertTrue(FILES)
        for path in PACKAGE.rglob("*"):
            if "__pycache__" not in path.parts and path.is_file():
                self.assertEqual(path.suffix, ".py", path)
                self.assertRegex(path.stem, "^[a-z0-9_]+$")

    def test_sizes_and_signs(self):
        for path in FILES:
            text = path.read_text(encoding="utf-8")
            rows = text.split("\n")
            self.assertLess(len(rows) - 1, 400, path)
            for at, row in enumerate(rows, 1):
                self.assertLessEqual(len(row), 120, f"{path}:{at}")
                self.assertTrue(all(" " <= sign <= "~" for sign in row), f"{path}:{at}")

    def test_functions(self):
        for path, tree in trees():
            for node in ast.walk(tree):
                if isinstance(node, ast.FunctionDef):
                    rows = node.end_lineno - node.lineno + 1
                    self.assertLessEqual(rows, 40, f"{path}:{node.name}")
                    if node in tree.body:
                        self.assertEqual(node.decorator_list, [], f"{path}:{node.name}")

    def test_imports(self):
        for path, tree in trees():
            for node in ast.walk(tree):
                if isinstance(node, ast.ImportFrom):
                    self.assertIn(node, tree.body, path)
                    self.assertEqual(node.level, 0, path)
                    names = {told.name for told in node.names}
                    if node.module in LIBRARY:
                        self.assertLessEqual(names, LIBRARY[node.module], path)
                        continue
                    self.assertTrue(node.module.startswith("landweave."), path)
                    source = PACKAGE / (node.module.split(".")[1] + ".py")
                    self.assertLessEqual(names, set(bound_names(ast.parse(source.read_text()))), path)

    def test_words(self):
        for path, tree in trees():
            for node in ast.walk(tree):
                self.assertNotIsInstance(node, BARRED, f"{path}:{getattr(node, 'lineno', 0)}")
                if isinstance(node, ast.Constant):
                    self.assertNotIsInstance(node.value, float, path)
                if isinstance(node, ast.Name):
                    self.assertNotIn(node.id, WORDS, path)
                    if isinstance(node.ctx, ast.Load) and hasattr(builtins, node.id):
                        self.assertIn(node.id, BUILTINS, f"{path}:{node.lineno}")
                if isinstance(node, ast.Attribute):
                    self.assertNotIn(node.attr, WORDS, path)

    def test_names(self):
        for path, tree in trees():
            taken = {told.name for node in tree.body if isinstance(node, ast.ImportFrom)
                     for told in node.names}
            for name in bound_names(tree):
                if not name.startswith("__"):
                    self.assertFalse(hasattr(builtins, name), f"{path}: {name}")
                self.assertNotIn(name, taken, path)

    def test_module_level(self):
        for path, tree in trees():
            for node in tree.body:
                if isinstance(node, ast.Expr):
                    self.assertIs(node, tree.body[0], path)
                    self.assertIsNotNone(ast.get_docstring(tree), path)
                else:
                    self.assertIsInstance(
                        node, (ast.ImportFrom, ast.FunctionDef, ast.ClassDef, ast.Assign), path)

    def test_interface_stands_where_it_should(self):
        told = {"knots": "knot",
                "land": "Land needless thinned covered_by",
                "squares": "square_at tall shows_tall highest shows_highest",
                "caves": "Cave rooms_in by_blocks same_room shows_same",
                "ways": "route shows_route price_by_blocks prices",
                "water": "poured shows_poured least_level",
                "sight": "sees",
                "things": "things_in",
                "brushes": "must_brush reach_of painted",
                "texts": "show_rules read_rules saved read_land",
                "desk": "Desk",
                "fields": "must_rules value_at steps_of run_steps bounds_of",
                "errors": "LandError NoRules NoBox NoPoint NoLevel NoCount NoEdit Full NoDeed NoBrush "
                          "NoText NoLine NoSuch"}
        for file, names in told.items():
            tree = ast.parse((PACKAGE / (file + ".py")).read_text())
            found = {node.name for node in tree.body if isinstance(node, (ast.FunctionDef, ast.ClassDef))}
            self.assertLessEqual(set(names.split()), found, file)

    def test_methods_stand_in_their_class(self):
        told = {"Land": "__init__ __eq__ __len__ height rules seed tile bounds edit drop swap pour many back again "
                        "edits twin",
                "Desk": "__init__ say",
                "Cave": "__init__ is_rock block dig fill back again twin"}
        found = {node.name: {part.name for part in node.body if isinstance(part, ast.FunctionDef)}
                 for _, tree in trees() for node in tree.body if isinstance(node, ast.ClassDef)}
        for name, methods in told.items():
            self.assertLessEqual(set(methods.split()), found[name], name)

    def test_words_that_hang_on_classes_that_compare(self):
        """With __eq__ and __len__ about: no .sort(), and no generator expression in any, all, sum and the like."""
        for path, tree in trees():
            for node in ast.walk(tree):
                self.assertNotIsInstance(node, ast.GeneratorExp, f"{path}:{getattr(node, 'lineno', 0)}")
                if isinstance(node, ast.Attribute):
                    self.assertNotIn(node.attr, ("sort", "format", "format_map"), path)


if __name__ == "__main__":
    unittest.main()
