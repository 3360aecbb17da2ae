"""The rules of the language subset that can be read off the files of the package."""

import ast
import builtins
import pathlib
import re
import unittest

PACKAGE = pathlib.Path(__file__).resolve().parent.parent / "filledonce"

BUILTINS = """len range enumerate zip min max sum abs sorted reversed int str bool list tuple dict set frozenset
isinstance ord repr any all divmod iter next super property staticmethod classmethod Exception ValueError TypeError
KeyError IndexError LookupError ZeroDivisionError ArithmeticError OverflowError RuntimeError NotImplementedError
AttributeError NotImplemented""".split()

WORDS = """type typing typing_extensions enum Enum IntEnum StrEnum Flag IntFlag Generic Protocol ABC ABCMeta namedtuple
NamedTuple TypedDict TYPE_CHECKING abstractmethod""".split()


def files():
    return sorted(PACKAGE.glob("**/*.py"))


def nodes(path):
    return list(ast.walk(ast.parse(path.read_text())))


class LanguageTest(unittest.TestCase):
    def test_the_folder_contains_python_files_only(self):
        for path in PACKAGE.iterdir():
            if path.name != "__pycache__":
                self.assertRegex(path.name, r"^[a-z0-9_]+\.py$")

    def test_sizes_and_characters(self):
        for path in files():
            lines = path.read_text().split("\n")
            self.assertLessEqual(len(lines), 399, path)
            for line in lines:
                self.assertLessEqual(len(line), 120, (path, line))
                self.assertRegex(line, r"^[ -~]*$", path)

    def test_functions_are_short(self):
        for path in files():
            for node in nodes(path):
                if isinstance(node, ast.FunctionDef):
                    self.assertLessEqual(node.end_lineno - node.lineno + 1, 40, (path, node.name))

    def test_words_that_are_not_used(self):
        for path in files():
            found = re.findall(r"\w+", path.read_text())
            self.assertEqual([word for word in found if word in WORDS], [], path)

    def test_imports_are_from_the_package(self):
        for path in files():
            for node in nodes(path):
                self.assertNotIsInstance(node, ast.Import, path)
                if isinstance(node, ast.ImportFrom):
                    self.assertEqual(node.level, 0, path)
                    self.assertTrue(node.module.startswith("filledonce."), path)

    def test_builtins_that_are_allowed(self):
        for path in files():
            for node in nodes(path):
                if isinstance(node, ast.Name) and hasattr(builtins, node.id):
                    self.assertIn(node.id, BUILTINS, path)

    def test_names_are_plain(self):
        for path in files():
            for node in nodes(path):
                for name in [getattr(node, "id", None), getattr(node, "arg", None), getattr(node, "attr", None)]:
                    if isinstance(name, str) and name != "__init__":
                        self.assertRegex(name, r"^[A-Za-z]\w*$", path)

    def test_no_floats_and_no_percent_in_strings(self):
        for path in files():
            for node in nodes(path):
                if isinstance(node, ast.Constant):
                    self.assertNotIsInstance(node.value, float, path)
                    if isinstance(node.value, str):
                        self.assertNotIn("%", node.value, path)

    def test_is_asks_for_none_and_truths_only(self):
        for path in files():
            for node in nodes(path):
                if isinstance(node, ast.Compare) and any(isinstance(sign, (ast.Is, ast.IsNot)) for sign in node.ops):
                    for right in node.comparators:
                        self.assertIn(getattr(right, "value", right), [None, True, False], path)

    def test_sorted_min_and_max_take_plain_numbers(self):
        # Rules and samples have an order, so nothing else is sorted.
        for path in files():
            for node in nodes(path):
                if isinstance(node, ast.Call) and getattr(node.func, "id", None) in ["sorted", "min", "max"]:
                    self.assertIsInstance(node.args[0], ast.ListComp, (path, node.lineno))
                    self.assertEqual(ast.unparse(node.args[0].elt).split("(")[0], "int", (path, node.lineno))
                if isinstance(node, ast.Attribute):
                    self.assertNotEqual(node.attr, "sort", (path, node.lineno))

    def test_no_generator_expressions(self):
        for path in files():
            for node in nodes(path):
                self.assertNotIsInstance(node, ast.GeneratorExp, path)

    def test_no_other_function_has_the_name_of_a_generator(self):
        every = [(path.stem, node) for path in files() for node in nodes(path) if isinstance(node, ast.FunctionDef)]
        names = [node.name for _, node in every]
        for file, node in every:
            if any(isinstance(part, (ast.Yield, ast.YieldFrom)) for part in ast.walk(node)):
                self.assertEqual(names.count(node.name), 1, (file, node.name))

    def test_exponents_are_written_out(self):
        for path in files():
            for node in nodes(path):
                if isinstance(node, ast.BinOp) and isinstance(node.op, ast.Pow):
                    self.assertIsInstance(node.right, ast.Constant, path)

    def test_what_leaves_a_block_only_assigns_attributes(self):
        for path in files():
            for node in nodes(path):
                if isinstance(node, ast.FunctionDef) and node.name == "__exit__":
                    for part in ast.walk(node):
                        self.assertNotIsInstance(part, (ast.Call, ast.BinOp, ast.For, ast.While, ast.Raise), path)
                        if isinstance(part, ast.Assign):
                            self.assertIsInstance(part.targets[0], ast.Attribute, path)

    def test_what_has_items_says_how_it_is_iterated_over(self):
        for path in files():
            for node in nodes(path):
                if isinstance(node, ast.ClassDef):
                    names = [row.name for row in node.body if isinstance(row, ast.FunctionDef)]
                    self.assertTrue("__getitem__" not in names or "__iter__" in names, (path, node.name))

    def test_no_name_is_a_method_and_an_attribute(self):
        methods = set()
        properties = set()
        attributes = set()
        for path in files():
            for node in nodes(path):
                if isinstance(node, ast.ClassDef):
                    for row in [row for row in node.body if isinstance(row, ast.FunctionDef)]:
                        told = [ast.unparse(one) for one in row.decorator_list]
                        has_property = "property" in told or f"{row.name}.setter" in told
                        (properties if has_property else methods).add(row.name)
                if isinstance(node, ast.Attribute) and isinstance(node.ctx, ast.Store):
                    attributes.add(node.attr)
        self.assertEqual(methods & (attributes | properties), set())

    def test_names_mean_one_thing_in_a_file(self):
        for path in files():
            bound = set()
            for node in ast.parse(path.read_text()).body:
                if isinstance(node, ast.ClassDef):
                    bound.add(node.name)
                if isinstance(node, ast.ImportFrom):
                    bound.update(name.asname or name.name for name in node.names)
            for node in nodes(path):
                stored = isinstance(node, ast.Name) and isinstance(node.ctx, ast.Store)
                name = node.id if stored else getattr(node, "arg", None)
                if name is not None:
                    self.assertNotIn(name, bound, path)
                    self.assertFalse(hasattr(builtins, name), (path, name))

    def test_what_is_imported_is_used(self):
        for path in files():
            used = {node.id for node in nodes(path) if isinstance(node, ast.Name)}
            for node in nodes(path):
                if isinstance(node, ast.ImportFrom):
                    for name in node.names:
                        self.assertIn(name.name, used, path)

    def test_no_two_files_import_each_other(self):
        needs = {}
        for path in files():
            needs[path.stem] = {node.module.split(".")[1] for node in nodes(path) if isinstance(node, ast.ImportFrom)}
        while needs:
            free = [name for name, others in needs.items() if not others & set(needs)]
            self.assertNotEqual(free, [], needs)
            for name in free:
                del needs[name]


if __name__ == "__main__":
    unittest.main()
