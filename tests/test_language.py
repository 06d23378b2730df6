"""The rules of LANGUAGE.md that can be seen in the files of the package."""

import ast
import builtins
import pathlib
import re
import unittest
import warnings

PACKAGE = pathlib.Path(__file__).resolve().parent.parent / "phrasedesk"
FILES = sorted(PACKAGE.glob("*.py"))
MODULES = {"phrasedesk." + path.stem: path for path in FILES}

BUILTINS = set("""len range enumerate zip min max sum abs sorted reversed int str bool bytes list tuple dict set frozenset
    isinstance ord repr any all divmod Exception ValueError TypeError KeyError IndexError LookupError ZeroDivisionError
    ArithmeticError OverflowError RuntimeError NotImplementedError AttributeError StopIteration NotImplemented
    iter next super property staticmethod classmethod object""".split())
METHODS = set("""append clear copy count endswith extend find get index insert isalnum isalpha isdigit islower isspace isupper
    items join keys ljust lower lstrip partition pop remove replace reverse rfind rjust rpartition rsplit rstrip setdefault
    split splitlines startswith strip update upper values zfill bit_length add discard sort""".split())
BARRED_WORDS = """type typing typing_extensions enum Enum IntEnum StrEnum Flag IntFlag Generic Protocol ABC ABCMeta namedtuple
    NamedTuple TypedDict TYPE_CHECKING abstractmethod""".split()
BARRED_PARTS = ["dataclass", "overload", "contextmanager"]
BARRED_NAMES = set("""register mro elements open input version_info with_traceback add_note attrgetter breakpoint builtins
    compile copyright credits delattr dir eval exec exit gc getattr globals hasattr help id importlib license locals
    methodcaller os quit setattr type vars sys chr print float""".split())
BARRED_NODES = (ast.Global, ast.AsyncFunctionDef, ast.AsyncFor, ast.AsyncWith, ast.Await, ast.Import, ast.Div, ast.MatMult)


def tree_of(path):
    return ast.parse(path.read_text(encoding="utf-8"))


def functions_of(tree):
    return [node for node in ast.walk(tree) if isinstance(node, ast.FunctionDef)]


def classes_of(tree):
    return [node for node in ast.walk(tree) if isinstance(node, ast.ClassDef)]


def names_bound_in(function):
    """The parameters and local variables of a function."""
    bound = [one.arg for one in ast.walk(function) if isinstance(one, ast.arg)]
    return bound + [one.id for one in ast.walk(function) if isinstance(one, ast.Name) and isinstance(one.ctx, ast.Store)]


def imports_of(tree):
    return [node for node in tree.body if isinstance(node, ast.ImportFrom)]


def is_docstring(node):
    return isinstance(node, ast.Expr) and isinstance(node.value, ast.Constant) and isinstance(node.value.value, str)


def names_at_top(tree):
    """All names that a module binds, its imports too."""
    names = []
    for node in tree.body:
        if isinstance(node, (ast.FunctionDef, ast.ClassDef)):
            names.append(node.name)
        if isinstance(node, ast.ImportFrom):
            names.extend([one.asname or one.name for one in node.names])
        if isinstance(node, ast.Assign):
            names.extend([one.id for one in node.targets])
    return names


class Language(unittest.TestCase):
    def test_the_folder_holds_plain_files_only(self):
        self.assertIn("__init__.py", [path.name for path in FILES])
        for path in PACKAGE.iterdir():
            if path.name != "__pycache__":
                self.assertRegex(path.name, r"^[a-z][a-z0-9_]*\.py$|^__init__\.py$")

    def test_sizes_and_signs(self):
        for path in FILES:
            text = path.read_text(encoding="utf-8")
            lines = text.splitlines()
            self.assertLessEqual(len(lines), 400, path)
            self.assertLessEqual(max(map(len, lines)), 120, path)
            self.assertEqual([sign for sign in text if not " " <= sign <= "~" and sign != "\n"], [], path)
            self.assertNotIn("%", text, path)
            for function in functions_of(tree_of(path)):
                self.assertLessEqual(function.end_lineno - function.lineno + 1, 40, function.name)

    def test_words_that_occur_nowhere(self):
        for path in FILES:
            text = path.read_text(encoding="utf-8")
            for word in BARRED_WORDS:
                self.assertIsNone(re.search(rf"\b{word}\b", text), (path, word))
            for part in BARRED_PARTS:
                self.assertNotIn(part, text, path)

    def test_python_gives_no_warning(self):
        for path in FILES:
            with warnings.catch_warnings():
                warnings.simplefilter("error")
                compile(path.read_text(encoding="utf-8"), str(path), "exec")

    def test_imports_come_from_the_defining_file_and_go_in_no_circle(self):
        reached = {}
        for name, path in MODULES.items():
            reached[name] = [node.module for node in imports_of(tree_of(path))]
            for node in imports_of(tree_of(path)):
                self.assertEqual(node.level, 0)
                defining = tree_of(MODULES[node.module])
                defined = set(names_at_top(defining))
                brought = {one.name for other in imports_of(defining) for one in other.names}
                self.assertLessEqual({one.name for one in node.names}, defined - brought)
                self.assertEqual([one.asname for one in node.names if one.asname], [])
        self.assertEqual(reached["phrasedesk.__init__"], [])
        left = dict(reached)
        while left:
            free = [name for name in left if not any(other in left for other in left[name])]
            self.assertTrue(free, f"a circle among {sorted(left)}")
            left = {name: left[name] for name in left if name not in free}

    def test_module_level(self):
        for path in FILES:
            tree = tree_of(path)
            kinds = [0 if is_docstring(node) else 1 if isinstance(node, ast.ImportFrom) else 2 for node in tree.body]
            self.assertEqual(kinds, sorted(kinds), f"docstring, imports, then the rest: {path}")
            for node in tree.body:
                self.assertTrue(is_docstring(node) or isinstance(node, (ast.ImportFrom, ast.FunctionDef, ast.ClassDef,
                                                                        ast.Assign)), (path, node.lineno))
                if isinstance(node, ast.Assign):
                    ast.literal_eval(node.value)
            names = names_at_top(tree)
            self.assertEqual(len(names), len(set(names)), path)
            inner = [node for node in ast.walk(tree) if isinstance(node, (ast.ClassDef, ast.ImportFrom))]
            self.assertLessEqual(set(inner), set(tree.body), path)

    def test_no_barred_statements_and_values(self):
        for path in FILES:
            for node in ast.walk(tree_of(path)):
                self.assertNotIsInstance(node, BARRED_NODES, path)
                if isinstance(node, ast.Constant):
                    self.assertNotIsInstance(node.value, (float, complex), path)
                if isinstance(node, ast.Compare):
                    for sign, right in zip(node.ops, node.comparators):
                        if isinstance(sign, (ast.Is, ast.IsNot)):
                            self.assertTrue(isinstance(right, ast.Constant) and right.value in (None, True, False), path)
                if isinstance(node, (ast.FunctionDef, ast.ClassDef)):
                    self.assertEqual(node.decorator_list, [], path)

    def test_names(self):
        for path in FILES:
            tree = tree_of(path)
            known = BUILTINS | set(names_at_top(tree))
            taken = {node.name for node in classes_of(tree)} | set(dir(builtins))
            taken |= {one.name for node in imports_of(tree) for one in node.names}
            for function in functions_of(tree):
                bound = set(names_bound_in(function))
                self.assertEqual(bound & taken, set(), (path, function.name))
                for node in ast.walk(function):
                    if isinstance(node, ast.Name):
                        self.assertIn(node.id, known | bound, (path, node.lineno))
                        self.assertFalse(node.id.startswith("_"), (path, node.lineno))
                        self.assertNotIn(node.id, BARRED_NAMES, (path, node.lineno))
            for function in functions_of(tree):
                self.assertTrue(not function.name.startswith("_") or function.name == "__init__", function.name)
                self.assertNotIn(function.name, BARRED_NAMES)

    def test_methods_and_attributes(self):
        methods, stored, called, read = set(), set(), set(), set()
        for path in FILES:
            tree = tree_of(path)
            for one in classes_of(tree):
                names = [node.name for node in one.body if isinstance(node, ast.FunctionDef)]
                self.assertEqual(len(names), len(set(names)), one.name)
                methods |= set(names)
            for node in ast.walk(tree):
                if isinstance(node, ast.Call) and isinstance(node.func, ast.Attribute):
                    called.add(node.func.attr)
                if isinstance(node, ast.Attribute):
                    (stored if isinstance(node.ctx, ast.Store) else read).add(node.attr)
        self.assertEqual(methods & stored, set())
        self.assertLessEqual(called, methods | METHODS)
        self.assertLessEqual(read - called, stored)
        own_names = set(dir(str) + dir(int) + dir(list) + dir(dict) + dir(set) + dir(bytes)) - {"__init__"}
        self.assertEqual((methods | stored) & own_names - {"count", "index", "find", "get", "copy", "add"}, set())

    def test_errors_are_made_where_they_are_raised(self):
        for path in FILES:
            for node in ast.walk(tree_of(path)):
                if isinstance(node, ast.Raise) and node.exc is not None:
                    self.assertTrue(isinstance(node.exc, ast.Call) and isinstance(node.exc.func, ast.Name), path)


if __name__ == "__main__":
    unittest.main()
