"""The form of the package: what can be seen of LANGUAGE.md and of the interface without running it."""

import ast
import pathlib
import re
import unittest

PACKAGE = pathlib.Path(__file__).resolve().parent.parent / "whoselaw"

# The file, and what the interface lists under it: functions with their arguments, classes without.
INTERFACE = {
    "errors.py": {
        "LawError": None, "NotHeld": None, "NoTurn": None, "NoFact": None, "Twice": None,
        "TooMany": None, "NotTold": None, "NoRule": None, "NoText": None,
    },
    "lands.py": {
        "are_lands": ["thing"],
        "rule_at": ["lands", "land", "kind", "day"],
        "custom_at": ["lands", "land", "kind", "day"],
        "reach_at": ["lands", "land", "kind", "day"],
        "heirs_at": ["lands", "land", "day"],
        "take_at": ["lands", "land", "other", "day"],
        "saying_at": ["lands", "land", "kind", "day"],
    },
    "facts.py": {
        "is_book": ["lands", "thing"],
        "stands": ["book", "pair", "day"],
        "stood_with": ["book", "role", "one", "day"],
    },
    "trails.py": {
        "trail_of": ["book", "pair", "day"],
        "trail_holds": ["book", "pair", "day", "thing"],
    },
}

BARRED_WORDS = re.compile(
    r"\b(type|typing|typing_extensions|enum|Enum|IntEnum|StrEnum|Flag|IntFlag|Generic|Protocol|ABC|ABCMeta|"
    r"namedtuple|NamedTuple|TypedDict|TYPE_CHECKING|abstractmethod)\b|dataclass|overload|contextmanager"
)


def files():
    return sorted(path for path in PACKAGE.rglob("*") if path.is_file() and "__pycache__" not in path.parts)


class Interface(unittest.TestCase):
    def test_each_name_is_defined_in_its_file(self):
        for name, listed in INTERFACE.items():
            body = ast.parse((PACKAGE / name).read_text()).body
            functions = {node.name: node for node in body if isinstance(node, ast.FunctionDef)}
            classes = [node.name for node in body if isinstance(node, ast.ClassDef)]
            for wanted, arguments in listed.items():
                if arguments is None:
                    self.assertIn(wanted, classes)
                else:
                    told = [argument.arg for argument in functions[wanted].args.args]
                    self.assertEqual(told, arguments, wanted)


class Form(unittest.TestCase):
    def test_the_folder_holds_python_files_only(self):
        self.assertTrue((PACKAGE / "__init__.py").is_file())
        for path in files():
            self.assertRegex(path.name, r"\A[a-z_][a-z0-9_]*\.py\Z")
            self.assertEqual(path.parent, PACKAGE)

    def test_signs_and_sizes(self):
        for path in files():
            text = path.read_bytes().decode("ascii")
            self.assertIsNone(re.search(r"[^ -~\n]", text), path)
            lines = text.splitlines()
            self.assertLessEqual(len(lines), 399, path)
            self.assertLessEqual(max(map(len, lines)), 120, path)
            for node in ast.walk(ast.parse(text)):
                if isinstance(node, ast.FunctionDef):
                    self.assertLessEqual(node.end_lineno - node.lineno + 1, 40, node.name)

    def test_barred_words(self):
        for path in files():
            self.assertIsNone(BARRED_WORDS.search(path.read_text()), path)

    def test_imports_name_the_file_that_defines(self):
        for path in files():
            tree = ast.parse(path.read_text())
            imports = [node for node in ast.walk(tree) if isinstance(node, (ast.Import, ast.ImportFrom))]
            for node in imports:
                self.assertIsInstance(node, ast.ImportFrom)
                self.assertIn(node, tree.body)
                self.assertEqual(node.level, 0)
                package, module = node.module.split(".")
                self.assertEqual(package, "whoselaw")
                source = ast.parse((PACKAGE / f"{module}.py").read_text())
                for alias in node.names:
                    self.assertIn(alias.name, defined_names(source))

    def test_expressions_that_are_barred(self):
        barred = (ast.Global, ast.AsyncFunctionDef, ast.Await, ast.Div)
        for path in files():
            for node in ast.walk(ast.parse(path.read_text())):
                self.assertNotIsInstance(node, barred, path)
                if isinstance(node, ast.Constant):
                    self.assertNotIsInstance(node.value, (float, complex), path)


def defined_names(tree):
    names = []
    for node in tree.body:
        if isinstance(node, (ast.FunctionDef, ast.ClassDef)):
            names.append(node.name)
        if isinstance(node, ast.Assign):
            names.extend(target.id for target in node.targets)
    return names


if __name__ == "__main__":
    unittest.main()
