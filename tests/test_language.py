"""The files of the package keep to the rules of the language that they use (L1 to L28).

The package uses less than the rules allow. What stands here is what it uses: who wants more looks the rule up and
widens the list.
"""

import ast
import builtins
import pathlib
import unittest

FOLDER = pathlib.Path(__file__).resolve().parent.parent / "claimworlds"
FILES = sorted(FOLDER.glob("*.py"))
NODES = """
    Module FunctionDef ClassDef arguments arg Return Assign AugAssign For While If Expr Raise Try ExceptHandler ImportFrom
    alias Break Continue Delete BoolOp BinOp UnaryOp IfExp Dict ListComp DictComp Compare Call FormattedValue JoinedStr
    Constant Attribute Subscript Name List Tuple Slice Load Store Del comprehension Add Sub USub And Or Not Eq NotEq Lt LtE
    Gt GtE Is IsNot In NotIn Mult Yield BitOr LShift Mod
    keyword
""".split()
BUILTINS = """
    len range enumerate zip sorted reversed str int bool list tuple isinstance iter all any max min sum ValueError
""".split()
METHODS = """
    append endswith extend get index items join partition pop setdefault split startswith values
""".split()
DOUBLE = ("__init__", "__contains__", "__call__", "__iter__", "__rshift__")
AT_ONCE = ("zip", "enumerate", "reversed", "range")
NO_NAMES = """
    register mro elements open input law version_info with_traceback add_note attrgetter breakpoint builtins compile copyright
    credits delattr dir eval exec exit gc getattr globals hasattr help id importlib license locals methodcaller os quit
    setattr type vars sys
""".split()
NO_ATTRIBUTES = """
    items keys values pop update append clear extend insert remove reverse setdefault sort args encode decode hex fromhex
    format format_map mro register elements open input law
""".split()
NO_WORDS = """
    type typing typing_extensions enum Enum IntEnum StrEnum Flag IntFlag Generic Protocol ABC ABCMeta namedtuple NamedTuple
    TypedDict TYPE_CHECKING abstractmethod
""".split()


def tree_of(file):
    return ast.parse(file.read_text(), str(file))


def bound_names(tree):
    """The names that a file binds at module level, with the file's own definitions only."""
    found = []
    for node in tree.body:
        if isinstance(node, (ast.FunctionDef, ast.ClassDef)):
            found.append(node.name)
        elif isinstance(node, ast.Assign):
            found.extend(target.id for target in node.targets)
    return found


def imported_names(tree):
    return [alias.name for node in tree.body if isinstance(node, ast.ImportFrom) for alias in node.names]


def strings_of(tree):
    """The strings of a file that are no docstrings."""
    documents = []
    for node in ast.walk(tree):
        if isinstance(node, (ast.Module, ast.ClassDef, ast.FunctionDef)) and isinstance(node.body[0], ast.Expr):
            documents.append(node.body[0].value)
    for node in ast.walk(tree):
        if isinstance(node, ast.Constant) and isinstance(node.value, str) and node not in documents:
            yield node.value


class TestLanguage(unittest.TestCase):

    def each(self):
        """Each node of each file, with a text that tells where it stands."""
        for file in FILES:
            for node in ast.walk(tree_of(file)):
                yield node, f"{file.name}:{getattr(node, 'lineno', '?')}"

    def test_files(self):
        self.assertGreater(len(FILES), 15)
        for path in FOLDER.iterdir():
            if path.name != "__pycache__":
                self.assertTrue(path.suffix == ".py" and path.name == path.name.lower(), path)
        body = tree_of(FOLDER / "__init__.py").body
        self.assertEqual([type(node) for node in body], [ast.Expr])

    def test_signs_and_sizes(self):
        for file in FILES:
            lines = file.read_bytes().decode("ascii").split("\n")
            self.assertLessEqual(len(lines), 399, file)
            for number, line in enumerate(lines):
                self.assertTrue(len(line) <= 120 and all(" " <= sign <= "~" for sign in line), f"{file}:{number + 1}")
        for node, where in self.each():
            if isinstance(node, ast.FunctionDef):
                self.assertLessEqual(node.end_lineno - node.lineno + 1, 40, where)

    def test_nodes(self):
        for node, where in self.each():
            self.assertIn(type(node).__name__, NODES, where)
            if isinstance(node, (ast.FunctionDef, ast.ClassDef)):
                self.assertIn([ast.unparse(found) for found in node.decorator_list], ([], ["classmethod"], ["property"]), where)
                self.assertFalse(node.decorator_list and isinstance(node, ast.ClassDef), where)
            if isinstance(node, ast.Constant):
                self.assertNotIsInstance(node.value, (float, bytes, complex), where)
            if isinstance(node, ast.Compare) and any(isinstance(sign, (ast.Is, ast.IsNot)) for sign in node.ops):
                self.assertIsInstance(node.comparators[0], ast.Constant, where)
                self.assertIn(node.comparators[0].value, (None, True, False), where)

    def test_imports(self):
        reached = {}
        for file in FILES:
            tree = tree_of(file)
            reached[file.stem] = []
            later = False
            for node in tree.body[1:]:
                if not isinstance(node, ast.ImportFrom):
                    later = True
                    continue
                self.assertFalse(later or node.level, file)
                package, stem = node.module.split(".")
                self.assertEqual(package, "claimworlds", file)
                reached[file.stem].append(stem)
                for alias in node.names:
                    self.assertIsNone(alias.asname, file)
                    self.assertIn(alias.name, bound_names(tree_of(FOLDER / f"{stem}.py")), file)
            used = [node.id for node in ast.walk(tree) if isinstance(node, ast.Name)]
            for name in imported_names(tree):
                self.assertIn(name, used, file)
        while reached:
            free = [stem for stem, wanted in reached.items() if not any(other in reached for other in wanted)]
            self.assertTrue(free, f"a circle of imports among {sorted(reached)}")
            for stem in free:
                del reached[stem]

    def test_module_level(self):
        for file in FILES:
            tree = tree_of(file)
            names = bound_names(tree) + imported_names(tree)
            self.assertEqual(len(names), len(set(names)), file)
            for node in tree.body[1:]:
                if isinstance(node, ast.Assign):
                    self.assertEqual(len(node.targets), 1, file)
                    ast.literal_eval(node.value)
                else:
                    self.assertIsInstance(node, (ast.ImportFrom, ast.FunctionDef, ast.ClassDef), file)

    def test_names(self):
        for file in FILES:
            tree = tree_of(file)
            own = bound_names(tree) + imported_names(tree)
            for node in ast.walk(tree):
                where = f"{file.name}:{getattr(node, 'lineno', '?')}"
                name = None
                if isinstance(node, ast.arg):
                    name = node.arg
                elif isinstance(node, ast.Name) and isinstance(node.ctx, ast.Store) and node not in top_targets(tree):
                    name = node.id
                if name is not None:
                    self.assertFalse(name in own or name in dir(builtins) or name in NO_NAMES, f"{where} {name}")
                if isinstance(node, ast.Name) and node.id in dir(builtins) and node.id not in own:
                    self.assertIn(node.id, BUILTINS + ["super", "classmethod", "property"], where)
                if isinstance(node, ast.FunctionDef) and node.name.startswith("__"):
                    self.assertIn(node.name, DOUBLE, where)
                if isinstance(node, ast.Attribute) and isinstance(node.ctx, ast.Store):
                    self.assertNotIn(node.attr, NO_ATTRIBUTES, where)

    def test_methods(self):
        own = [node.name for node, _ in self.each() if isinstance(node, ast.FunctionDef)]
        for node, where in self.each():
            if isinstance(node, ast.Call) and isinstance(node.func, ast.Attribute):
                self.assertIn(node.func.attr, METHODS + own, where)

    def test_class_methods(self):
        """A class method calls `cls`, and does nothing else with it; its name is used for nothing else."""
        made = []
        for node, _ in self.each():
            if [ast.unparse(found) for found in getattr(node, "decorator_list", [])] == ["classmethod"]:
                made.append(node.name)
        defined = [node.name for node, _ in self.each() if isinstance(node, ast.FunctionDef)]
        for name in made:
            self.assertEqual(defined.count(name), 1)
        for node, where in self.each():
            if isinstance(node, ast.Attribute):
                self.assertFalse(isinstance(node.ctx, ast.Store) and node.attr in made, where)
            if isinstance(node, ast.FunctionDef) and node.name in made:
                called = [inner.func for inner in ast.walk(node) if isinstance(inner, ast.Call)]
                for inner in ast.walk(node):
                    if isinstance(inner, ast.Name) and inner.id == "cls":
                        self.assertIn(inner, called, where)

    def test_methods_and_attributes(self):
        """No name is a method of one class and an attribute of the same or of another one."""
        methods = []
        attributes = []
        for node, _ in self.each():
            if isinstance(node, ast.ClassDef):
                methods.extend(inner.name for inner in node.body if isinstance(inner, ast.FunctionDef))
            if isinstance(node, ast.Attribute) and isinstance(node.ctx, ast.Store):
                attributes.append(node.attr)
        self.assertEqual([name for name in methods if name in attributes], [])

    def test_properties(self):
        """A property assigns nothing but plain local variables, and no other class has an attribute of its name."""
        names = []
        for node, where in self.each():
            if [ast.unparse(found) for found in getattr(node, "decorator_list", [])] == ["property"]:
                names.append(node.name)
                for inner in ast.walk(node):
                    if isinstance(inner, (ast.Attribute, ast.Subscript)):
                        self.assertIsInstance(inner.ctx, ast.Load, where)
                    if isinstance(inner, ast.Call) and isinstance(inner.func, ast.Attribute):
                        self.fail(f"{where}: a property calls a method")
        for node, where in self.each():
            if isinstance(node, ast.Attribute) and isinstance(node.ctx, ast.Store):
                self.assertNotIn(node.attr, names, where)

    def test_generators(self):
        """A `yield` is a statement of its own, and no call of a generator stands outside of the head of a loop."""
        generators = []
        statements = 0
        yields = 0
        for node, _ in self.each():
            if isinstance(node, ast.FunctionDef) and any(isinstance(inner, ast.Yield) for inner in ast.walk(node)):
                self.assertNotIn(node.name, generators)
                generators.append(node.name)
            statements += isinstance(node, ast.Expr) and isinstance(node.value, ast.Yield)
            yields += isinstance(node, ast.Yield)
        self.assertEqual(statements, yields)
        for file in FILES:
            tree = tree_of(file)
            heads = [node.iter for node in ast.walk(tree) if isinstance(node, ast.For)]
            for node in ast.walk(tree):
                if isinstance(node, ast.Call) and getattr(node.func, "id", "") in generators:
                    self.assertIn(node, heads, f"{file.name}:{node.lineno}")

    def test_errors(self):
        own = bound_names(tree_of(FOLDER / "errors.py"))
        for node, where in self.each():
            if isinstance(node, ast.ExceptHandler):
                caught = node.type.elts if isinstance(node.type, ast.Tuple) else [node.type]
                for name in caught:
                    self.assertIn(name.id, own, where)
            if isinstance(node, ast.Raise):
                self.assertTrue(isinstance(node.exc, ast.Call) and node.exc.func.id in own, where)

    def test_what_is_iterated_at_once(self):
        for file in FILES:
            tree = tree_of(file)
            allowed = []
            for node in ast.walk(tree):
                if isinstance(node, (ast.For, ast.comprehension)):
                    allowed.append(node.iter)
                if isinstance(node, ast.Call) and getattr(node.func, "id", "") in ("list", "tuple", "sorted", "enumerate"):
                    allowed.append(node.args[0])
                if isinstance(node, ast.Call) and getattr(node.func, "id", "") == "reversed":
                    self.assertNotIn(getattr(getattr(node.args[0], "func", None), "id", ""), ("zip", "enumerate"), file)
                    allowed.append(node.args[0])
            for node in ast.walk(tree):
                if isinstance(node, ast.Call):
                    called = getattr(node.func, "id", "") or getattr(node.func, "attr", "")
                    if called in AT_ONCE or called in ("items", "keys", "values"):
                        self.assertIn(node, allowed, f"{file.name}:{node.lineno}")

    def test_strings(self):
        for file in FILES:
            for text in strings_of(tree_of(file)):
                self.assertNotIn("%", text, file)
                self.assertFalse(text.startswith("__") or text.endswith("._"), file)
            words = [word for text in strings_of(tree_of(file)) for word in text.split()]
            for word in NO_WORDS:
                self.assertNotIn(word, words, file)


def top_targets(tree):
    return [target for node in tree.body if isinstance(node, ast.Assign) for target in node.targets]


if __name__ == "__main__":
    unittest.main()
