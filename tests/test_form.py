"""The form of the package's code: some of the rules of ../shared/LANGUAGE.md, not all of them."""

import ast
import builtins
import io
import pathlib
import re
import tokenize
import unittest
import warnings

from newsways import errors

PACKAGE = pathlib.Path(__file__).resolve().parent.parent / "newsways"
FILES = sorted(PACKAGE.glob("*.py"))

BARRED_WORDS = (
    "type typing typing_extensions enum Enum IntEnum StrEnum Flag IntFlag Generic Protocol ABC ABCMeta namedtuple "
    "NamedTuple TypedDict TYPE_CHECKING abstractmethod"
).split()
BARRED_PARTS = ["dataclass", "overload", "contextmanager"]
BARRED_NAMES = (
    "register mro elements open input version_info with_traceback add_note attrgetter breakpoint builtins compile "
    "copyright credits delattr dir eval exec exit gc getattr globals hasattr help id importlib license locals "
    "methodcaller os quit setattr super sys type vars"
).split()
BUILTINS = (
    "len range enumerate zip min max sum abs sorted reversed int str bool bytes list tuple dict set frozenset "
    "isinstance ord repr any all divmod Exception ValueError TypeError KeyError IndexError LookupError "
    "ZeroDivisionError ArithmeticError OverflowError RuntimeError NotImplementedError AttributeError StopIteration"
).split()
METHODS = (
    "append clear copy count endswith extend find get index insert isalnum isalpha isdigit islower isspace isupper "
    "items join keys ljust lower lstrip partition pop remove replace reverse rfind rjust rpartition rsplit rstrip "
    "setdefault split splitlines startswith strip update upper values zfill bit_length"
).split()
BARRED_ATTRIBUTES = (
    "items keys values pop update append clear extend insert remove reverse setdefault sort args encode decode hex "
    "fromhex format"
).split()
OWN_DOUBLES = ["__init__", "__eq__", "__repr__", "__str__", "__len__"]
BARRED_NODES = (
    ast.With, ast.Match, ast.Global, ast.Nonlocal, ast.Yield, ast.YieldFrom, ast.Await, ast.AsyncFunctionDef,
    ast.AsyncFor, ast.AsyncWith, ast.GeneratorExp, ast.NamedExpr, ast.Import, ast.Div, ast.MatMult,
)


def nodes(tree, *kinds):
    return [node for node in ast.walk(tree) if isinstance(node, kinds)]


def is_call_of(node, *names):
    return isinstance(node, ast.Call) and isinstance(node.func, ast.Name) and node.func.id in names


def is_set(node):
    return isinstance(node, (ast.Set, ast.SetComp)) or is_call_of(node, "set")


def own_methods(tree):
    classes = nodes(tree, ast.ClassDef)
    return [node.name for owner in classes for node in owner.body if isinstance(node, ast.FunctionDef)]


class Form(unittest.TestCase):
    def each(self):
        self.assertTrue(FILES)
        for file in FILES:
            text = file.read_text(encoding="utf-8")
            yield text, ast.parse(text, filename=file.name)

    def test_files(self):
        for file in PACKAGE.iterdir():
            if file.name != "__pycache__":
                self.assertRegex(file.name, r"\A[a-z0-9_]+\.py\Z")
        self.assertIn(PACKAGE / "__init__.py", FILES)

    def test_size_and_characters(self):
        for text, tree in self.each():
            lines = text.split("\n")
            self.assertLessEqual(len(lines), 400)
            for line in lines:
                self.assertLessEqual(len(line), 120)
                self.assertRegex(line, r"\A[ -~]*\Z")
            for function in nodes(tree, ast.FunctionDef):
                self.assertLessEqual(function.end_lineno - function.lineno + 1, 40)

    def test_words(self):
        for text, tree in self.each():
            words = re.findall(r"[A-Za-z_]+", text)
            self.assertEqual([word for word in words if word in BARRED_WORDS], [])
            self.assertEqual([part for part in BARRED_PARTS if part in text], [])

    def test_strings(self):
        for text, tree in self.each():
            for node in nodes(tree, ast.Constant):
                self.assertNotIn("%", str(node.value))
            for token in tokenize.generate_tokens(io.StringIO(text).readline):
                if token.type == tokenize.STRING:
                    self.assertNotRegex(token.string.replace("\\\\", ""), r"\\[^nt'\"]")

    def test_no_warning(self):
        for text, tree in self.each():
            with warnings.catch_warnings():
                warnings.simplefilter("error")
                compile(text, "form", "exec")

    def test_nodes(self):
        for text, tree in self.each():
            self.assertEqual([ast.dump(node) for node in nodes(tree, *BARRED_NODES)], [])
            for node in nodes(tree, ast.Constant):
                self.assertNotIsInstance(node.value, (float, complex))
            for node in nodes(tree, ast.For, ast.While):
                self.assertEqual(node.orelse, [])
            for node in nodes(tree, ast.FunctionDef, ast.ClassDef):
                self.assertEqual(node.decorator_list, [])
            for node in nodes(tree, ast.arguments):
                self.assertIsNone(node.vararg or node.kwarg)
                self.assertEqual(node.posonlyargs, [])
            for node in nodes(tree, ast.Compare):
                for sign, right in zip(node.ops, node.comparators):
                    if isinstance(sign, (ast.Is, ast.IsNot)):
                        self.assertIn(ast.unparse(right), ["None", "True", "False"])

    def test_module_level(self):
        kinds = (ast.ImportFrom, ast.FunctionDef, ast.ClassDef, ast.Assign, ast.AnnAssign)
        for text, tree in self.each():
            self.assertIsNotNone(ast.get_docstring(tree))
            for node in tree.body[1:]:
                self.assertIsInstance(node, kinds)

    def test_imports(self):
        for text, tree in self.each():
            for node in nodes(tree, ast.ImportFrom):
                self.assertIn(node, tree.body)
                self.assertEqual(node.level, 0)
                self.assertTrue(node.module == "__future__" or node.module.startswith("newsways."))
                for name in node.names:
                    self.assertNotEqual(name.name, "*")

    def test_names(self):
        for text, tree in self.each():
            bound = [node.arg for node in nodes(tree, ast.arg)]
            bound += [node.id for node in nodes(tree, ast.Name) if not isinstance(node.ctx, ast.Load)]
            bound += [node.name for node in nodes(tree, ast.FunctionDef, ast.ClassDef)]
            bound += [node.attr for node in nodes(tree, ast.Attribute)]
            for name in bound:
                self.assertTrue(name in OWN_DOUBLES or not name.startswith("_"), name)
                self.assertNotIn(name, BARRED_NAMES)
            imported = [name.name for node in nodes(tree, ast.ImportFrom) for name in node.names]
            classes = [node.name for node in nodes(tree, ast.ClassDef)]
            local = [node.arg for node in nodes(tree, ast.arg)]
            local += [node.id for node in nodes(tree, ast.Name) if not isinstance(node.ctx, ast.Load)]
            for name in local:
                self.assertNotIn(name, imported + classes + dir(builtins))

    def test_builtins(self):
        for text, tree in self.each():
            for node in nodes(tree, ast.Name):
                if node.id in dir(builtins):
                    self.assertIn(node.id, BUILTINS)

    def test_handlers(self):
        for text, tree in self.each():
            for node in nodes(tree, ast.ExceptHandler):
                self.assertIsNotNone(node.type)
                self.assertNotIn(ast.unparse(node.type), ["Exception", "TypeError", "()"])
            for node in nodes(tree, ast.Raise):
                self.assertTrue(node.exc is None or isinstance(node.exc, ast.Call))

    def test_imports_name_the_file_that_defines_the_name(self):
        defined = {}
        for file in FILES:
            tree = ast.parse(file.read_text(encoding="utf-8"))
            functions = [node.name for node in tree.body if isinstance(node, (ast.FunctionDef, ast.ClassDef))]
            values = [target.id for node in tree.body if isinstance(node, ast.Assign) for target in node.targets]
            self.assertEqual(len(functions + values), len(set(functions + values)))
            defined[f"newsways.{file.stem}"] = functions + values
        for text, tree in self.each():
            used = [node.id for node in nodes(tree, ast.Name)]
            for node in nodes(tree, ast.ImportFrom):
                for name in node.names:
                    self.assertIsNone(name.asname)
                    self.assertIn(name.name, defined[node.module])
                    self.assertIn(name.name, used)

    def test_no_two_files_import_from_each_other(self):
        ahead = {}
        for file in FILES:
            tree = ast.parse(file.read_text(encoding="utf-8"))
            ahead[file.stem] = {node.module.removeprefix("newsways.") for node in nodes(tree, ast.ImportFrom)}
        while ahead:
            free = [name for name in ahead if not ahead[name] & set(ahead)]
            self.assertNotEqual(free, [], f"a ring among {sorted(ahead)}")
            for name in free:
                del ahead[name]

    def test_methods_and_attributes(self):
        methods, attributes, called = [], [], []
        for text, tree in self.each():
            methods += own_methods(tree)
            calls = [node.func for node in nodes(tree, ast.Call) if isinstance(node.func, ast.Attribute)]
            called += [node.attr for node in calls]
            attributes += [node.attr for node in nodes(tree, ast.Attribute) if node not in calls]
            for owner in nodes(tree, ast.ClassDef):
                names = [node.name for node in owner.body if isinstance(node, ast.FunctionDef)]
                self.assertEqual(len(names), len(set(names)))
                for node in owner.body:
                    self.assertTrue(isinstance(node, ast.FunctionDef) or node == owner.body[0])
        self.assertEqual(sorted(set(methods) & set(attributes)), [])
        self.assertEqual(sorted(set(attributes) & set(BARRED_ATTRIBUTES)), [])
        for name in called:
            self.assertIn(name, METHODS + methods)
        for name in methods:
            self.assertTrue(name in OWN_DOUBLES or not name.startswith("_"), name)

    def test_attributes_that_are_read_are_assigned(self):
        assigned, read = [], []
        for text, tree in self.each():
            attributes = nodes(tree, ast.Attribute)
            assigned += [node.attr for node in attributes if isinstance(node.ctx, ast.Store)]
            calls = [node.func for node in nodes(tree, ast.Call)]
            read += [node.attr for node in attributes if isinstance(node.ctx, ast.Load) and node not in calls]
        self.assertEqual(sorted(set(read) - set(assigned)), [])

    def test_only_own_errors_are_caught(self):
        own = [name for name in dir(errors) if name[0].isupper()]
        for text, tree in self.each():
            for node in nodes(tree, ast.ExceptHandler):
                self.assertIn(ast.unparse(node.type), own)
                self.assertIsNone(node.name)
            for node in nodes(tree, ast.Try):
                self.assertEqual((node.finalbody, node.orelse), ([], []))

    def test_keywords(self):
        """No call but those of a few builtins has keywords, and these just the ones that they may have."""
        may = {"sorted": ["key", "reverse"], "min": ["key", "default"], "max": ["key", "default"]}
        for text, tree in self.each():
            for node in nodes(tree, ast.Call):
                for keyword in node.keywords:
                    self.assertIn(keyword.arg, may.get(ast.unparse(node.func), []))

    def test_classes(self):
        """A class is called, is a base class or stands in isinstance, except and raise, and nowhere else."""
        for text, tree in self.each():
            imported = [name.name for node in nodes(tree, ast.ImportFrom) for name in node.names]
            classes = [name for name in imported if name[0].isupper() and not name.isupper()]
            classes += [node.name for node in nodes(tree, ast.ClassDef)]
            free = [node.func for node in nodes(tree, ast.Call)]
            free += [base for node in nodes(tree, ast.ClassDef) for base in node.bases]
            free += [node.type for node in nodes(tree, ast.ExceptHandler)]
            free += [node.args[1] for node in nodes(tree, ast.Call) if is_call_of(node, "isinstance")]
            free += [node.value for node in nodes(tree, ast.Attribute) if node.attr == "__init__"]
            for node in nodes(tree, ast.Name):
                self.assertTrue(node.id not in classes or node in free, node.id)

    def test_tables_at_module_level_are_only_read(self):
        for text, tree in self.each():
            tables = [target.id for node in tree.body if isinstance(node, ast.Assign) for target in node.targets]
            imported = [name.name for node in nodes(tree, ast.ImportFrom) for name in node.names]
            tables += [name for name in imported if name.isupper()]
            for node in nodes(tree, ast.Subscript):
                if isinstance(node.value, ast.Name) and node.value.id in tables:
                    self.assertIsInstance(node.ctx, ast.Load)
            for node in nodes(tree, ast.Attribute):
                self.assertFalse(isinstance(node.value, ast.Name) and node.value.id in tables)
            for node in nodes(tree, ast.Call):
                self.assertFalse(isinstance(node.func, ast.Subscript), "a function from a table is named first")

    def test_what_is_iterated_on_the_spot_is(self):
        once = ("zip", "enumerate", "reversed", "range")
        for text, tree in self.each():
            free = [node.iter for node in nodes(tree, ast.For, ast.comprehension)]
            free += [node.args[0] for node in nodes(tree, ast.Call)
                     if is_call_of(node, "list", "tuple", "dict", "sorted", "sum", "any", "all")]
            for node in nodes(tree, ast.Call):
                method = node.func.attr if isinstance(node.func, ast.Attribute) else ""
                self.assertTrue(node in free or not (is_call_of(node, *once) or method in ("items", "keys", "values")))

    def test_f_strings(self):
        for text, tree in self.each():
            for node in nodes(tree, ast.FormattedValue):
                self.assertIsNone(node.format_spec)
                for inner in nodes(node, ast.Constant):
                    self.assertNotIsInstance(inner.value, (str, bytes))

    def test_sets(self):
        """A set stands directly in len or sorted, or behind in; none is stored so far."""
        for text, tree in self.each():
            free = [node.args[0] for node in nodes(tree, ast.Call) if is_call_of(node, "len", "sorted")]
            free += [right for node in nodes(tree, ast.Compare) for right in node.comparators]
            for node in ast.walk(tree):
                self.assertTrue(not is_set(node) or node in free)

    def test_double_underscore_methods(self):
        barred = (ast.Assign, ast.AugAssign, ast.AnnAssign, ast.Delete)
        for text, tree in self.each():
            for node in nodes(tree, ast.FunctionDef):
                if node.name in ("__eq__", "__len__"):
                    self.assertEqual(nodes(node, *barred), [])
                for told in nodes(node, ast.Return):
                    self.assertTrue(node.name != "__len__" or is_call_of(told.value, "len"))
                    self.assertNotEqual(node.name, "__init__")


if __name__ == "__main__":
    unittest.main()
