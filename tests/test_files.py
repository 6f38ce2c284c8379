"""The rules for the files of the package that can be seen from their text alone."""

import ast
import builtins
import pathlib
import unittest

PACKAGE = pathlib.Path(__file__).resolve().parent.parent / "waysthatcross"
LIBRARY = ("heapq", "math", "itertools", "collections")
BUILTINS = set("""len range enumerate zip min max sum abs sorted reversed int str bool list tuple dict set isinstance
    repr any all divmod ValueError KeyError""".split())
METHODS = set("""append clear copy count extend find get index insert items join keys pop remove reverse setdefault
    split update values add discard bit_length""".split())
BARRED = set("register mro elements open input law eval exec vars dir id type enum overload dataclass super".split())


def sources():
    """Return the names, texts and trees of the package's files."""
    texts = [(file.name, file.read_text(encoding="utf-8")) for file in sorted(PACKAGE.glob("*.py"))]
    return [(name, text, ast.parse(text)) for name, text in texts]


def imported_from(tree):
    return [node.module for node in ast.walk(tree) if isinstance(node, ast.ImportFrom)]


class Files(unittest.TestCase):

    def test_the_folder_contains_python_files_alone(self):
        for file in PACKAGE.iterdir():
            if file.name != "__pycache__":
                self.assertRegex(file.name, r"^[a-z_][a-z0-9_]*\.py$")
        self.assertIn("__init__.py", [name for name, _, _ in sources()])

    def test_characters_and_lengths(self):
        for name, text, _ in sources():
            lines = text.split("\n")
            self.assertLessEqual(len(lines) - 1, 399, name)
            self.assertLessEqual(max(len(line) for line in lines), 120, name)
            self.assertEqual([sign for sign in text if sign != "\n" and not " " <= sign <= "~"], [], name)

    def test_functions_are_short(self):
        for name, _, tree in sources():
            for node in ast.walk(tree):
                if isinstance(node, ast.FunctionDef):
                    self.assertLessEqual(node.end_lineno - node.lineno + 1, 40, (name, node.name))

    def test_lists_where_generator_expressions_could_stand(self):
        # Book has an __eq__, so any, all, min, max, sum and sorted take lists.
        for name, _, tree in sources():
            self.assertEqual([node.lineno for node in ast.walk(tree) if isinstance(node, ast.GeneratorExp)], [], name)

    def test_builtins_and_methods(self):
        own = {node.name for _, _, tree in sources() for node in ast.walk(tree) if isinstance(node, ast.FunctionDef)}
        for name, _, tree in sources():
            names = [node for node in ast.walk(tree) if isinstance(node, ast.Name)]
            loaded = {node.id for node in names if isinstance(node.ctx, ast.Load) and hasattr(builtins, node.id)}
            self.assertEqual(sorted(loaded - BUILTINS), [], name)
            bound = {node.id for node in names if not isinstance(node.ctx, ast.Load)}
            bound |= {node.arg for node in ast.walk(tree) if isinstance(node, ast.arg)}
            bound |= {node.name for node in ast.walk(tree) if isinstance(node, (ast.FunctionDef, ast.ClassDef))}
            bound -= {"__init__", "__eq__"}
            self.assertEqual([word for word in sorted(bound) if hasattr(builtins, word) or word in BARRED], [], name)
            called = {node.func.attr for node in ast.walk(tree)
                      if isinstance(node, ast.Call) and isinstance(node.func, ast.Attribute)}
            self.assertEqual(sorted(called - METHODS - own), [], name)

    def test_kinds_of_statements_and_expressions(self):
        barred = (ast.Try, ast.With, ast.Global, ast.Nonlocal, ast.Assert, ast.Delete, ast.Yield, ast.YieldFrom,
                  ast.AsyncFunctionDef, ast.JoinedStr, ast.NamedExpr, ast.Match, ast.Div, ast.Pow, ast.AnnAssign)
        for name, _, tree in sources():
            self.assertEqual([ast.dump(node) for node in ast.walk(tree) if isinstance(node, barred)], [], name)
            defined = [node for node in ast.walk(tree) if isinstance(node, (ast.FunctionDef, ast.ClassDef))]
            self.assertEqual([node.name for node in defined if node.decorator_list], [], name)
            constants = [node.value for node in ast.walk(tree) if isinstance(node, ast.Constant)]
            self.assertEqual([value for value in constants if isinstance(value, (float, bytes))], [], name)
            self.assertEqual([value for value in constants if isinstance(value, str) and "%" in value], [], name)

    def test_what_stands_at_module_level(self):
        allowed = (ast.FunctionDef, ast.ClassDef, ast.ImportFrom)
        for name, _, tree in sources():
            docstring, *rest = tree.body
            self.assertIsInstance(docstring.value.value, str, name)
            self.assertEqual([node.lineno for node in rest if not isinstance(node, allowed)], [], name)
            names = [node.name for node in rest if hasattr(node, "name")]
            names += [alias.name for node in rest if isinstance(node, ast.ImportFrom) for alias in node.names]
            self.assertEqual(sorted(set(names)), sorted(names), name)

    def test_sets_stand_where_they_are_asked_or_kept_once(self):
        for name, _, tree in sources():
            allowed = []
            for node in ast.walk(tree):
                if isinstance(node, ast.Call) and isinstance(node.func, ast.Name) and node.func.id in ("sorted", "len"):
                    allowed += node.args if not node.keywords else []
                if isinstance(node, ast.Assign) and isinstance(node.targets[0], ast.Name):
                    allowed.append(node.value)
            for node in ast.walk(tree):
                is_call = isinstance(node, ast.Call) and isinstance(node.func, ast.Name) and node.func.id == "set"
                if is_call or isinstance(node, (ast.Set, ast.SetComp)):
                    self.assertIn(node, allowed, (name, node.lineno))

    def test_no_local_name_is_that_of_an_import(self):
        for name, _, tree in sources():
            imported = {alias.name for node in tree.body if isinstance(node, ast.ImportFrom) for alias in node.names}
            stored = [node for node in ast.walk(tree) if isinstance(node, ast.Name) and isinstance(node.ctx, ast.Store)]
            told = {node.id for node in stored} | {node.arg for node in ast.walk(tree) if isinstance(node, ast.arg)}
            self.assertEqual(sorted(imported & told), [], name)

    def test_imports_name_the_very_file(self):
        trees = {"waysthatcross." + name[:-3]: tree for name, _, tree in sources()}
        for name, _, tree in sources():
            self.assertEqual([node for node in ast.walk(tree) if isinstance(node, ast.Import)], [], name)
            for node in [node for node in ast.walk(tree) if isinstance(node, ast.ImportFrom)]:
                self.assertEqual(node.level, 0, name)
                if node.module not in LIBRARY:
                    told = {part.name for part in trees[node.module].body if hasattr(part, "name")}
                    told |= {target.id for part in trees[node.module].body if isinstance(part, ast.Assign)
                             for target in part.targets}
                    self.assertLessEqual({alias.name for alias in node.names}, told, name)

    def test_no_two_files_import_from_each_other(self):
        rest = {"waysthatcross." + name[:-3]: imported_from(tree) for name, _, tree in sources()}
        self.assertEqual(rest["waysthatcross.__init__"], [])
        while rest:
            free = [name for name in rest if not [part for part in rest[name] if part in rest]]
            self.assertNotEqual(free, [], rest)
            rest = {name: rest[name] for name in rest if name not in free}


if __name__ == "__main__":
    unittest.main()
