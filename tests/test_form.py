"""The form of the package: what can be seen of LANGUAGE.md and of the interface without running it."""

import ast
import builtins
import pathlib
import re
import unittest

PACKAGE = pathlib.Path(__file__).resolve().parent.parent / "whoselaw"

# The file, and what the interface lists under it: functions with their arguments, classes without.
INTERFACE = {
    "errors.py": {
        "LawError": None, "NotHeld": None, "NoTurn": None, "NoFact": None, "Twice": None,
        "TooMany": None, "NotTold": None, "NoRule": None, "NoText": None,
    },
    "lands.py": {
        "are_lands": ["thing"],
        "rule_at": ["lands", "land", "kind", "day"],
        "custom_at": ["lands", "land", "kind", "day"],
        "reach_at": ["lands", "land", "kind", "day"],
        "heirs_at": ["lands", "land", "day"],
        "take_at": ["lands", "land", "other", "day"],
        "saying_at": ["lands", "land", "kind", "day"],
    },
    "facts.py": {
        "is_book": ["lands", "thing"],
        "stands": ["book", "pair", "day"],
        "stood_with": ["book", "role", "one", "day"],
    },
    "trails.py": {
        "trail_of": ["book", "pair", "day"],
        "trail_holds": ["book", "pair", "day", "thing"],
    },
    "chains.py": {
        "step_of": ["lands", "book", "land", "question"],
        "chain_of": ["lands", "book", "court", "question"],
        "decided": ["lands", "book", "court", "question"],
    },
    "chainpaper.py": {
        "chain_holds": ["lands", "book", "court", "question", "thing"],
        "seat_and_source": ["lands", "question", "chain"],
    },
    "trees.py": {"answer_of": ["lands", "book", "court", "question"]},
    "treepaper.py": {"tree_holds": ["lands", "book", "court", "question", "answer", "thing"]},
    "naming.py": {"named": ["lands", "question", "court", "tree"]},
    "dealing.py": {"dealt": ["lands", "book", "court", "kind", "thing", "day"]},
    "dealpaper.py": {"dealing_holds": ["lands", "book", "court", "kind", "one", "day", "dealing", "paper"]},
    "estates.py": {
        "left_by": ["lands", "book", "court", "kind", "who", "day"],
        "totals": ["left", "worths"],
    },
    "rolls.py": {
        "is_roll": ["lands", "thing"],
        "takes_over": ["lands", "land", "judgment"],
    },
    "verdicts.py": {
        "verdicts": ["lands", "book", "roll", "land", "one", "day"],
        "verdicts_hold": ["lands", "book", "roll", "land", "one", "day", "thing"],
        "holder": ["lands", "book", "roll", "land", "one", "day"],
        "parted": ["lands", "book", "roll", "one", "day"],
    },
    "courts.py": {
        "may_ask": ["lands", "book", "question"],
        "answers": ["lands", "book", "question"],
        "reached": ["lands", "book", "kind", "who", "day"],
    },
    "opens.py": {
        "is_opens": ["lands", "thing"],
        "filled": ["book", "opens", "filling", "day"],
    },
    "viewpaper.py": {"view_holds": ["lands", "book", "question", "courts", "opens", "known", "thing"]},
    "agreeing.py": {
        "agreeing": ["lands", "book", "question", "courts", "opens"],
        "agreeing_holds": ["lands", "book", "question", "courts", "opens", "thing"],
    },
    "settling.py": {
        "settles": ["lands", "book", "question", "court", "opens", "filling", "numbers"],
        "settling": ["lands", "book", "question", "court", "opens", "filling"],
    },
    "settlepaper.py": {"settling_holds": ["lands", "book", "question", "court", "opens", "filling", "thing"]},
    "turns.py": {
        "turned": ["lands", "turns"],
        "all_alike": ["lands", "table"],
    },
    "clashes.py": {"clashes_hold": ["lands", "table", "number", "thing"]},
    "fewest.py": {
        "fewest_turns": ["lands", "table", "number"],
        "fewest_holds": ["lands", "table", "number", "thing"],
    },
    "realms.py": {"Realm": None, "Folk": None},
    "dockets.py": {"Docket": None},
    "texts.py": {
        "book_text": ["book"],
        "read_book": ["lands", "thing"],
        "rules_text": ["lands"],
    },
    "desk.py": {"Desk": None},
}

# The methods that stand in the body of each class itself, with their arguments behind the object.
METHODS = {
    ("realms.py", "Realm"): {
        "__init__": ["lands"], "lands": [], "put_rule": ["land", "rule"], "drop_rule": ["land", "kind", "since"],
    },
    ("realms.py", "Folk"): {"__init__": ["realm"], "put": ["fact"], "drop": ["who", "role", "day"], "book": []},
    ("dockets.py", "Docket"): {
        "__init__": ["realm", "folk"], "ask": ["name", "court", "question"], "again": ["name"], "still": ["name"],
        "tree": ["name"], "drop": ["name"], "names": [], "turned_since": [],
    },
    ("desk.py", "Desk"): {"__init__": ["lands"], "say": ["row"]},
}

BARRED_WORDS = re.compile(
    r"\b(type|typing|typing_extensions|enum|Enum|IntEnum|StrEnum|Flag|IntFlag|Generic|Protocol|ABC|ABCMeta|"
    r"namedtuple|NamedTuple|TypedDict|TYPE_CHECKING|abstractmethod)\b|dataclass|overload|contextmanager"
)

ALLOWED_BUILTINS = set(
    "len range enumerate zip min max sum abs sorted reversed int str bool bytes list tuple dict set frozenset "
    "isinstance ord repr any all divmod iter next Exception ValueError TypeError KeyError IndexError LookupError "
    "ZeroDivisionError ArithmeticError OverflowError RuntimeError NotImplementedError AttributeError StopIteration "
    "NotImplemented".split()
)
ALLOWED_METHODS = set(
    "add discard append clear copy count endswith extend find get index insert isalnum isalpha isdigit islower "
    "isspace isupper items join keys ljust lower lstrip partition pop remove replace reverse rfind rjust rpartition "
    "rsplit rstrip setdefault split splitlines startswith strip update upper values zfill bit_length isascii".split()
)
# What no class may call a method or an attribute: names that builtin values have, but for those that L26 lets by.
BUILTIN_NAMES = {name for kind in (str, int, list, dict, set, bytes, tuple) for name in dir(kind)}
BARRED_NAMES = set(
    "register mro elements open input law version_info with_traceback add_note attrgetter breakpoint builtins compile "
    "copyright credits delattr dir eval exec exit gc getattr globals hasattr help id importlib license locals "
    "methodcaller os quit setattr super type vars sys".split()
)


def files():
    return sorted(path for path in PACKAGE.rglob("*") if path.is_file() and "__pycache__" not in path.parts)


class Interface(unittest.TestCase):
    def test_each_name_is_defined_in_its_file(self):
        for name, listed in INTERFACE.items():
            body = ast.parse((PACKAGE / name).read_text()).body
            functions = {node.name: node for node in body if isinstance(node, ast.FunctionDef)}
            classes = [node.name for node in body if isinstance(node, ast.ClassDef)]
            for wanted, arguments in listed.items():
                if arguments is None:
                    self.assertIn(wanted, classes)
                else:
                    told = [argument.arg for argument in functions[wanted].args.args]
                    self.assertEqual(told, arguments, wanted)


    def test_each_method_is_defined_in_its_class(self):
        for (name, wanted), listed in METHODS.items():
            found = [node for node in ast.parse((PACKAGE / name).read_text()).body
                     if isinstance(node, ast.ClassDef) and node.name == wanted]
            self.assertEqual(len(found), 1)
            methods = {node.name: node for node in found[0].body if isinstance(node, ast.FunctionDef)}
            for method, arguments in listed.items():
                told = [argument.arg for argument in methods[method].args.args]
                self.assertEqual(told, ["self"] + arguments, (wanted, method))


class Form(unittest.TestCase):
    def test_the_folder_holds_python_files_only(self):
        self.assertTrue((PACKAGE / "__init__.py").is_file())
        for path in files():
            self.assertRegex(path.name, r"\A[a-z_][a-z0-9_]*\.py\Z")
            self.assertEqual(path.parent, PACKAGE)

    def test_signs_and_sizes(self):
        for path in files():
            text = path.read_bytes().decode("ascii")
            self.assertIsNone(re.search(r"[^ -~\n]", text), path)
            lines = text.splitlines()
            self.assertLessEqual(len(lines), 399, path)
            self.assertLessEqual(max(map(len, lines)), 120, path)
            for node in ast.walk(ast.parse(text)):
                if isinstance(node, ast.FunctionDef):
                    self.assertLessEqual(node.end_lineno - node.lineno + 1, 40, node.name)

    def test_barred_words(self):
        for path in files():
            self.assertIsNone(BARRED_WORDS.search(path.read_text()), path)

    def test_imports_name_the_file_that_defines(self):
        for path in files():
            tree = ast.parse(path.read_text())
            imports = [node for node in ast.walk(tree) if isinstance(node, (ast.Import, ast.ImportFrom))]
            for node in imports:
                self.assertIsInstance(node, ast.ImportFrom)
                self.assertIn(node, tree.body)
                self.assertEqual(node.level, 0)
                package, module = node.module.split(".")
                self.assertEqual(package, "whoselaw")
                source = ast.parse((PACKAGE / f"{module}.py").read_text())
                for alias in node.names:
                    self.assertIn(alias.name, defined_names(source))

    def test_expressions_that_are_barred(self):
        barred = (ast.Global, ast.AsyncFunctionDef, ast.Await, ast.Div)
        for path in files():
            for node in ast.walk(ast.parse(path.read_text())):
                self.assertNotIsInstance(node, barred, path)
                if isinstance(node, ast.Constant):
                    self.assertNotIsInstance(node.value, (float, complex), path)

    def test_no_two_files_import_from_each_other(self):
        sources = {path.stem: imported_files(ast.parse(path.read_text())) for path in files()}
        left = dict(sources)
        while left:
            ready = [name for name in left if not sources[name] & set(left)]
            self.assertTrue(ready, sorted(left))
            for name in ready:
                del left[name]

    def test_module_level(self):
        allowed = (ast.ImportFrom, ast.FunctionDef, ast.ClassDef, ast.Assign)
        for path in files():
            body = ast.parse(path.read_text()).body
            self.assertIsInstance(body[0].value.value, str, path)
            for node in body[1:]:
                self.assertIsInstance(node, allowed, path)
            names = [name for node in body[1:] for name in bound_names(node)]
            self.assertEqual(sorted(names), sorted(set(names)), path)

    def test_names(self):
        for path in files():
            tree = ast.parse(path.read_text())
            imports = {alias.name for node in tree.body if isinstance(node, ast.ImportFrom) for alias in node.names}
            for name in stored_names(tree):
                if name == "__init__":
                    continue
                self.assertRegex(name, r"\A[A-Za-z][A-Za-z0-9_]*\Z", path)
                self.assertNotIn(name, dir(builtins), path)
                self.assertNotIn(name, BARRED_NAMES, path)
                self.assertNotIn(name, imports, path)

    def test_classes(self):
        """Their own names are no builtin value's, and none is a method here and an attribute there."""
        methods, attributes = own_names()
        self.assertEqual(methods & attributes, set())
        for name in methods | attributes:
            self.assertNotIn(name, BUILTIN_NAMES)
            self.assertRegex(name, r"\A[a-z][a-z0-9_]*\Z")
        for path in files():
            for node in ast.walk(ast.parse(path.read_text())):
                if isinstance(node, ast.ClassDef):
                    self.assertEqual(node.decorator_list, [])
                    names = [each.name for each in node.body if isinstance(each, ast.FunctionDef)]
                    self.assertEqual(len(names), len(set(names)))

    def test_no_state_at_module_level(self):
        """What is assigned there is a plain value, and in lists and dicts there are no others."""
        for path in files():
            for node in ast.parse(path.read_text()).body:
                if isinstance(node, ast.Assign):
                    for inner in list(ast.walk(node.value))[1:]:
                        self.assertNotIsInstance(inner, (ast.List, ast.Dict, ast.Call, ast.ListComp), path)

    def test_raised_and_caught_errors(self):
        listed = set(INTERFACE["errors.py"])
        for path in files():
            for node in ast.walk(ast.parse(path.read_text())):
                if isinstance(node, ast.Raise):
                    self.assertIn(node.exc.func.id, listed, path)
                    self.assertEqual(node.exc.args + node.exc.keywords, [], path)
                if isinstance(node, ast.ExceptHandler):
                    self.assertIn(node.type.id, listed, path)

    def test_texts(self):
        for path in files():
            for node in ast.walk(ast.parse(path.read_text())):
                if isinstance(node, ast.Constant) and isinstance(node.value, str):
                    self.assertNotIn("%", node.value, path)

    def test_builtins_and_methods(self):
        methods, attributes = own_names()
        for path in files():
            tree = ast.parse(path.read_text())
            for node in ast.walk(tree):
                if isinstance(node, ast.Name) and node.id in dir(builtins):
                    self.assertIn(node.id, ALLOWED_BUILTINS, path)
                if isinstance(node, ast.Attribute):
                    self.assertIn(node.attr, ALLOWED_METHODS | methods | attributes, path)

    def test_is_stands_with_none_true_and_false_only(self):
        for path in files():
            for node in ast.walk(ast.parse(path.read_text())):
                if isinstance(node, ast.Compare) and isinstance(node.ops[0], (ast.Is, ast.IsNot)):
                    self.assertIn(ast.unparse(node.comparators[0]), ("None", "True", "False"), path)


def own_names():
    """The names of the package's own methods, and of the attributes that its classes assign."""
    methods, attributes = set(), set()
    for path in files():
        for node in ast.walk(ast.parse(path.read_text())):
            if isinstance(node, ast.ClassDef):
                methods |= {each.name for each in node.body if isinstance(each, ast.FunctionDef)}
            if isinstance(node, ast.Attribute) and isinstance(node.ctx, ast.Store):
                attributes.add(node.attr)
    return methods - {"__init__"}, attributes


def imported_files(tree):
    return {node.module.split(".")[1] for node in tree.body if isinstance(node, ast.ImportFrom)}


def bound_names(node):
    """What a statement at module level binds."""
    if isinstance(node, ast.ImportFrom):
        return [alias.asname or alias.name for alias in node.names]
    if isinstance(node, ast.Assign):
        return [target.id for target in node.targets]
    return [node.name]


def stored_names(tree):
    """Every name that the file gives to something of its own."""
    names = []
    for node in ast.walk(tree):
        if isinstance(node, (ast.FunctionDef, ast.ClassDef)):
            names.append(node.name)
        if isinstance(node, ast.arg):
            names.append(node.arg)
        if isinstance(node, ast.Name) and isinstance(node.ctx, ast.Store):
            names.append(node.id)
    return names


def defined_names(tree):
    names = []
    for node in tree.body:
        if isinstance(node, (ast.FunctionDef, ast.ClassDef)):
            names.append(node.name)
        if isinstance(node, ast.Assign):
            names.extend(target.id for target in node.targets)
    return names


if __name__ == "__main__":
    unittest.main()
