"""That the package keeps to LANGUAGE.md, as far as its text shows it plainly."""

import ast
import pathlib
import re
import unittest

FOLDER = pathlib.Path(__file__).resolve().parent.parent / "answerskept"
FILES = sorted(FOLDER.rglob("*.py"))

BUILTINS = (
    "len range enumerate zip min max sum abs sorted reversed int str bool bytes list tuple dict set frozenset "
    "isinstance ord repr any all divmod pow Exception ValueError TypeError KeyError IndexError LookupError "
    "ZeroDivisionError ArithmeticError OverflowError RuntimeError NotImplementedError AttributeError StopIteration "
    "NotImplemented property staticmethod classmethod super iter next map type").split()
METHODS = (
    "append clear copy count endswith extend find get index insert isalnum isalpha isdigit islower isspace isupper "
    "items join keys ljust lower lstrip partition pop remove replace reverse rfind rjust rpartition rsplit rstrip "
    "setdefault split splitlines startswith strip update upper values zfill bit_length isdecimal removesuffix add discard "
    "sort").split()
BARRED = (
    "register mro elements open input law version_info with_traceback add_note attrgetter breakpoint builtins compile "
    "copyright credits delattr dir eval exec exit gc globals help id importlib license locals methodcaller os quit "
    "setattr vars sys").split()
BARRED_WORDS = (
    "type typing typing_extensions enum Enum IntEnum StrEnum Flag IntFlag Generic Protocol ABC ABCMeta namedtuple "
    "NamedTuple TypedDict TYPE_CHECKING abstractmethod").split()
STATEMENTS = (ast.AsyncFunctionDef, ast.AsyncFor, ast.AsyncWith, ast.Global, ast.Import, ast.Await)
AT_ONCE = "list tuple dict sorted sum any all enumerate zip bytes min max combinations permutations product".split()
LIBRARY = {"heapq", "math", "itertools", "collections"}


def tree_of(file):
    return ast.parse(file.read_text())


def bound_names(tree):
    """The names that a file binds, with those of its functions' parameters and variables."""
    for node in ast.walk(tree):
        if isinstance(node, (ast.FunctionDef, ast.ClassDef)):
            yield node.name
        if isinstance(node, ast.arg):
            yield node.arg
        if isinstance(node, ast.Name) and isinstance(node.ctx, ast.Store):
            yield node.id
        if isinstance(node, ast.alias):
            yield node.asname or node.name


class LanguageTest(unittest.TestCase):
    def test_folder_holds_nothing_but_plain_files(self):
        self.assertTrue(FILES)
        for path in FOLDER.rglob("*"):
            if "__pycache__" not in path.parts:
                self.assertRegex(path.name, r"^([a-z][a-z0-9_]*|__init__)\.py$")

    def test_sizes(self):
        for file in FILES:
            lines = file.read_text().split("\n")
            self.assertLessEqual(len(lines) - 1, 399, file)
            for line in lines:
                self.assertLessEqual(len(line), 120, (file, line))
            for node in ast.walk(tree_of(file)):
                if isinstance(node, ast.FunctionDef):
                    self.assertLessEqual(node.end_lineno - node.lineno + 1, 40, (file, node.name))

    def test_signs(self):
        for file in FILES:
            self.assertRegex(file.read_text(), r"\A[ -~\n]*\Z", file)
            self.assertNotRegex(file.read_text(), "_wall|_WallAttr|dataclass|overload|contextmanager", file)

    def test_imports(self):
        for file in FILES:
            body = tree_of(file).body
            for node in ast.walk(tree_of(file)):
                self.assertNotIsInstance(node, ast.Import, file)
                if isinstance(node, ast.ImportFrom):
                    self.assertEqual(node.level, 0, file)
                    top = node.module.split(".")[0]
                    self.assertTrue(top == "answerskept" or node.module in LIBRARY, (file, node.module))
                    if top == "answerskept":
                        self.check_defined(node, file)
            kinds = [isinstance(node, ast.ImportFrom) for node in body[1:]]
            self.assertEqual(kinds, sorted(kinds, reverse=True), "imports stand at the top")

    def check_defined(self, node, file):
        """That the very file is named that defines what is imported."""
        other = tree_of(FOLDER.parent / (node.module.replace(".", "/") + ".py"))
        names = [each.name for each in other.body if isinstance(each, (ast.FunctionDef, ast.ClassDef))]
        names += [each.targets[0].id for each in other.body if isinstance(each, ast.Assign)]
        for alias in node.names:
            self.assertIn(alias.name, names, file)
            self.assertIsNone(alias.asname, file)

    def test_no_files_import_from_each_other(self):
        leads = {}
        for file in FILES:
            found = [node.module for node in ast.walk(tree_of(file)) if isinstance(node, ast.ImportFrom)]
            leads["answerskept." + file.stem] = [module for module in found if module.startswith("answerskept")]
        while leads:
            ends = [module for module in leads if not any(other in leads for other in leads[module])]
            self.assertTrue(ends, leads)
            leads = {module: leads[module] for module in leads if module not in ends}

    def test_module_level(self):
        for file in FILES:
            names = []
            for node in tree_of(file).body:
                self.assertIsInstance(node, (ast.Expr, ast.ImportFrom, ast.FunctionDef, ast.ClassDef, ast.Assign), file)
                if isinstance(node, ast.ImportFrom):
                    names += [alias.name for alias in node.names]
                elif isinstance(node, ast.Assign):
                    names += [target.id for target in node.targets]
                elif not isinstance(node, ast.Expr):
                    names.append(node.name)
            self.assertEqual(len(names), len({*names}), file)

    def test_names(self):
        words = [word for word in dir(__builtins__) if word != "_"] if not isinstance(__builtins__, dict) else list(
            __builtins__)
        for file in FILES:
            tree = tree_of(file)
            methods = [node.name for each in ast.walk(tree) if isinstance(each, ast.ClassDef) for node in each.body
                       if isinstance(node, ast.FunctionDef)]
            for name in bound_names(tree):
                self.assertNotIn(name, BARRED, file)
                if name not in methods:
                    self.assertNotIn(name, words, file)
            tokens = re.sub(r'"""(.|\n)*?"""|#.*', "", file.read_text())
            for word in BARRED_WORDS:
                self.assertNotRegex(tokens, rf"\b{word}\b(?!\()", file)

    def test_no_local_name_is_an_import_or_a_class(self):
        for file in FILES:
            tree = tree_of(file)
            top = {alias.name for node in tree.body if isinstance(node, ast.ImportFrom) for alias in node.names}
            top |= {node.name for node in tree.body if isinstance(node, ast.ClassDef)}
            for node in ast.walk(tree):
                name = node.arg if isinstance(node, ast.arg) else None
                if isinstance(node, ast.Name) and isinstance(node.ctx, ast.Store):
                    name = node.id
                self.assertNotIn(name, top, file)

    def test_statements_and_values(self):
        for file in FILES:
            for node in ast.walk(tree_of(file)):
                self.assertNotIsInstance(node, STATEMENTS, file)
                if isinstance(node, ast.Constant):
                    self.assertNotIsInstance(node.value, (float, complex), file)
                    self.assertFalse(isinstance(node.value, str) and "%" in node.value, file)
                if isinstance(node, ast.BinOp):
                    self.assertNotIsInstance(node.op, (ast.Div, ast.MatMult), file)
                if isinstance(node, ast.Compare):
                    self.check_is(node, file)

    def check_is(self, node, file):
        for sign, other in zip(node.ops, node.comparators):
            if isinstance(sign, (ast.Is, ast.IsNot)):
                self.assertIsInstance(other, ast.Constant, file)
                self.assertIn(repr(other.value), ("None", "True", "False"), file)

    def test_kinds_are_asked_for_by_name_alone(self):
        """A call of type stands only in type(x).__name__."""
        for file in FILES:
            tree = tree_of(file)
            named = [node.value for node in ast.walk(tree) if isinstance(node, ast.Attribute) and node.attr == "__name__"]
            for node in ast.walk(tree):
                if isinstance(node, ast.Call) and isinstance(node.func, ast.Name) and node.func.id == "type":
                    self.assertIn(node, named, file)
                if isinstance(node, ast.Attribute) and node.attr.startswith("__"):
                    self.assertEqual(node.attr, "__name__", file)

    def test_texts_in_braces(self):
        for file in FILES:
            text = file.read_text()
            for node in ast.walk(tree_of(file)):
                if isinstance(node, ast.JoinedStr):
                    row = ast.get_source_segment(text, node)
                    inner = [each for part in node.values if isinstance(part, ast.FormattedValue) for each in ast.walk(part.value)
                             if isinstance(each, ast.Constant) and isinstance(each.value, str)]
                    self.assertFalse(inner and ("\\" in row or "\n" in row), row)

    def test_properties_and_attributes(self):
        """No class stores what is a property anywhere, and no class has a method and an attribute of one name."""
        stored, methods, held = set(), set(), set()
        for file in FILES:
            for node in ast.walk(tree_of(file)):
                if isinstance(node, ast.Attribute) and isinstance(node.ctx, ast.Store):
                    stored.add(node.attr)
                if isinstance(node, ast.ClassDef):
                    for each in node.body:
                        if isinstance(each, ast.FunctionDef):
                            (held if each.decorator_list else methods).add(each.name)
        self.assertFalse(stored & methods)
        self.assertFalse(held & (stored | methods))
        self.assertEqual(held, {"base", "program"})

    def test_what_is_iterated_at_once(self):
        """Ranges, zips and views are gone through where they stand, and not stored, returned or passed on."""
        for file in FILES:
            tree = tree_of(file)
            placed = [node.iter for node in ast.walk(tree) if isinstance(node, (ast.For, ast.comprehension))]
            for node in ast.walk(tree):
                if isinstance(node, ast.Call) and isinstance(node.func, ast.Name) and node.func.id in AT_ONCE:
                    placed += node.args if node.func.id == "zip" else node.args[:1]
            for node in ast.walk(tree):
                if isinstance(node, ast.Call):
                    plain = isinstance(node.func, ast.Name) and node.func.id in ("zip", "enumerate", "reversed", "range")
                    view = isinstance(node.func, ast.Attribute) and node.func.attr in ("items", "keys", "values")
                    if plain or view:
                        self.assertIn(node, placed, (file, node.lineno))

    def test_sets_stand_where_they_may(self):
        for file in FILES:
            tree = tree_of(file)
            placed = [node.args[0] for node in ast.walk(tree) if isinstance(node, ast.Call)
                      and isinstance(node.func, ast.Name) and node.func.id in ("sorted", "len") and node.args]
            for node in ast.walk(tree):
                if isinstance(node, (ast.Set, ast.SetComp)):
                    self.assertIn(node, placed, file)

    def test_calls(self):
        own = {node.name for file in FILES for node in ast.walk(tree_of(file))
               if isinstance(node, (ast.FunctionDef, ast.ClassDef))}
        for file in FILES:
            tree = tree_of(file)
            free = {*bound_names(tree), *BUILTINS}
            for node in ast.walk(tree):
                if isinstance(node, ast.Call) and isinstance(node.func, ast.Name):
                    self.assertIn(node.func.id, free, file)
                if isinstance(node, ast.Call) and isinstance(node.func, ast.Attribute):
                    self.assertTrue(node.func.attr in METHODS or node.func.attr in own, (file, node.func.attr))


if __name__ == "__main__":
    unittest.main()
