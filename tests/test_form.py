"""The form of the code: those rules of the language that a test can read off the files."""

import ast
import builtins
import io
import pathlib
import re
import tokenize
import unittest

PACKAGE = pathlib.Path(__file__).resolve().parent.parent / "curbdesk"
FILES = sorted(PACKAGE.glob("*.py"))

BUILTINS = set(
    "len range enumerate zip min max sum abs sorted reversed int str bool list tuple dict set isinstance any all "
    "divmod repr ord iter next property super ValueError TypeError KeyError".split()
)
METHODS = set(
    "append clear copy count endswith extend find get index insert isalnum isalpha isdigit islower isspace isupper "
    "items join keys ljust lower lstrip partition pop remove replace reverse rfind rjust rpartition rsplit rstrip "
    "setdefault split splitlines startswith strip update upper values zfill bit_length "
    "add discard sort removeprefix isdecimal".split()
)
BARRED_NODES = (
    ast.AsyncFunctionDef, ast.AsyncFor, ast.AsyncWith, ast.Await, ast.Import, ast.Div, ast.MatMult,
)
BARRED_NAMES = {name for name in dir(builtins) if not name.startswith("__")} | set(
    "register mro elements law version_info with_traceback add_note attrgetter builtins gc importlib methodcaller os "
    "sys".split()
)
BARRED_WORDS = re.compile(
    r"\b(type|typing|typing_extensions|enum|Enum|IntEnum|StrEnum|Flag|IntFlag|Generic|Protocol|ABC|ABCMeta|namedtuple|"
    r"NamedTuple|TypedDict|TYPE_CHECKING|abstractmethod)\b|dataclass|overload|contextmanager"
)


def parsed():
    return [(path, path.read_text(), ast.parse(path.read_text())) for path in FILES]


class FormTest(unittest.TestCase):
    def test_files(self):
        others = [p.name for p in PACKAGE.iterdir() if p.name != "__pycache__" and p not in FILES]
        self.assertEqual(others, [])
        self.assertIn(PACKAGE / "__init__.py", FILES)
        for path in FILES:
            self.assertRegex(path.name, r"^([a-z][a-z0-9_]*|__init__)\.py$")

    def test_characters_and_sizes(self):
        for path, text, tree in parsed():
            self.assertRegex(text, re.compile(r"\A[ -~\n]*\Z"), path.name)
            lines = text.split("\n")
            self.assertLessEqual(len(lines), 399, path.name)
            self.assertLessEqual(max(len(line) for line in lines), 120, path.name)
            for node in ast.walk(tree):
                if isinstance(node, ast.FunctionDef):
                    self.assertLessEqual(node.end_lineno - node.lineno + 1, 40, f"{path.name} {node.name}")

    def test_module_level(self):
        for path, _, tree in parsed():
            for node in tree.body:
                allowed = (ast.ImportFrom, ast.FunctionDef, ast.ClassDef, ast.Assign)
                docstring = isinstance(node, ast.Expr) and isinstance(node.value, ast.Constant)
                self.assertTrue(isinstance(node, allowed) or docstring, f"{path.name} {node.lineno}")

    def test_imports(self):
        edges = {}
        for path, _, tree in parsed():
            edges[path.stem] = []
            for node in ast.walk(tree):
                if isinstance(node, ast.ImportFrom):
                    self.assertEqual(node.level, 0)
                    self.assertRegex(node.module, r"^curbdesk\.[a-z_]+$")
                    source = (PACKAGE / (node.module.split(".")[1] + ".py")).read_text()
                    for alias in node.names:
                        self.assertIsNone(alias.asname)
                        self.assertRegex(source, rf"(?m)^(def|class) {alias.name}\b|^{alias.name} = ")
                    edges[path.stem].append(node.module.split(".")[1])
        self.check_no_circle(edges)

    def check_no_circle(self, edges):
        left = dict(edges)
        while left:
            free = [name for name, needs in left.items() if not set(needs) & set(left)]
            self.assertTrue(free, f"circle of imports in {sorted(left)}")
            for name in free:
                del left[name]

    def test_statements_and_signs(self):
        for path, _, tree in parsed():
            for node in ast.walk(tree):
                place = f"{path.name} {getattr(node, 'lineno', '')}"
                self.assertNotIsInstance(node, BARRED_NODES, place)
                if isinstance(node, ast.Constant):
                    self.assertNotIsInstance(node.value, (float, complex), place)
                if isinstance(node, ast.FunctionDef):
                    for decorator in node.decorator_list:
                        self.assertRegex(ast.unparse(decorator), r"^(property|[a-z_]+\.setter)$", place)

    def test_names(self):
        for path, _, tree in parsed():
            imported = self.imported_names(tree)
            classes = {node.name for node in tree.body if isinstance(node, ast.ClassDef)}
            for node in ast.walk(tree):
                for name in self.bound_names(node):
                    place = f"{path.name} {node.lineno} {name}"
                    self.assertNotIn(name, BUILTINS | BARRED_NAMES, place)
                    if not isinstance(node, (ast.ClassDef, ast.FunctionDef)):
                        self.assertNotIn(name, imported | classes, place)
                    own = ("__init__", "__contains__", "__iter__")
                    self.assertTrue(name in own or not name.startswith("__"), place)

    def test_properties_and_operators_change_nothing(self):
        """They are so short that it is plain to see: a docstring perhaps, and one statement that returns."""
        for path, _, tree in parsed():
            for node in ast.walk(tree):
                if isinstance(node, ast.FunctionDef) and self.runs_without_a_call(node):
                    rows = [row for row in node.body if not isinstance(row, ast.Expr)]
                    place = f"{path.name} {node.lineno}"
                    self.assertEqual([row.__class__ for row in rows], [ast.Return], place)
                    for part in ast.walk(rows[0]):
                        if isinstance(part, ast.Call):
                            self.assertIn(ast.unparse(part.func), ("len", "iter"), place)

    def runs_without_a_call(self, node):
        return bool(node.decorator_list) or node.name.startswith("__") and node.name != "__init__"

    def test_words_and_strings(self):
        for path, text, _ in parsed():
            for token in tokenize.generate_tokens(io.StringIO(text).readline):
                place = f"{path.name} {token.start[0]}"
                if token.type == tokenize.STRING and token.string.startswith('"""'):
                    continue
                if token.type != tokenize.COMMENT:
                    self.assertNotRegex(token.string, BARRED_WORDS, place)
                if token.type == tokenize.STRING:
                    self.assertNotIn("%", token.string, place)
                self.assertNotRegex(token.string, r"_wall|_WallAttr|\bglobal\b|\basync\b", place)

    def imported_names(self, tree):
        return {alias.name for node in tree.body if isinstance(node, ast.ImportFrom) for alias in node.names}

    def bound_names(self, node):
        if isinstance(node, (ast.FunctionDef, ast.ClassDef)):
            return [node.name]
        if isinstance(node, ast.arg):
            return [node.arg]
        if isinstance(node, ast.Name) and isinstance(node.ctx, (ast.Store, ast.Del)):
            return [node.id]
        return []

    def test_calls(self):
        own = set()
        for _, _, tree in parsed():
            own |= {node.name for node in ast.walk(tree) if isinstance(node, (ast.FunctionDef, ast.ClassDef))}
        # A parameter may be a function, too.
        own |= {"suffice", "parse"}
        for path, _, tree in parsed():
            for node in ast.walk(tree):
                if isinstance(node, ast.Call) and isinstance(node.func, ast.Name):
                    self.assertIn(node.func.id, own | BUILTINS, f"{path.name} {node.lineno}")
                elif isinstance(node, ast.Call) and isinstance(node.func, ast.Attribute):
                    self.assertIn(node.func.attr, own | METHODS, f"{path.name} {node.lineno}")

    def test_names_used_are_bound(self):
        for path, _, tree in parsed():
            known = self.imported_names(tree) | BUILTINS
            for node in ast.walk(tree):
                known |= set(self.bound_names(node))
            used = {node.id for node in ast.walk(tree) if isinstance(node, ast.Name)}
            self.assertLessEqual(used, known, path.name)
            self.assertLessEqual(self.imported_names(tree), used, f"{path.name}: imported for nothing")


if __name__ == "__main__":
    unittest.main()
