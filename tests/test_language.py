"""The package keeps to the small language in which it is written, as far as it is looked at here."""

import ast
import builtins
import pathlib
import re
import unittest
import warnings

PACKAGE = pathlib.Path(__file__).resolve().parent.parent / "onehistory"
FILES = {path.stem: path.read_text(encoding="utf-8") for path in sorted(PACKAGE.glob("*.py"))}
TREES = {name: ast.parse(text) for name, text in FILES.items()}

TABLES = {node.targets[0].id for tree in TREES.values() for node in tree.body
          if isinstance(node, ast.Assign) and isinstance(node.value, (ast.Dict, ast.List))}

BUILTINS = set("""
    len range enumerate zip min max sum abs sorted reversed int str bool list tuple dict set isinstance ord repr any all
    divmod iter next map type Exception ValueError TypeError KeyError IndexError LookupError ZeroDivisionError ArithmeticError
    OverflowError RuntimeError NotImplementedError AttributeError StopIteration
""".split())
METHODS = set("""
    append clear copy count endswith extend find get index insert isalnum isalpha isdigit islower isspace isupper items
    join keys ljust lower lstrip partition pop remove replace reverse rfind rjust rpartition rsplit rstrip setdefault
    split splitlines startswith strip update upper values zfill bit_length add discard removeprefix removesuffix
""".split())
SPECIAL = {"__init__", "__eq__", "__repr__", "__len__"}
BARRED = {
    "register", "mro", "elements", "open", "input", "law", "version_info", "with_traceback", "add_note", "eval", "exec",
    "type", "typing", "enum", "Enum", "ABC", "Generic", "Protocol", "namedtuple", "globals", "locals", "vars", "os", "sys",
    "id", "dir", "exit", "compile", "getattr", "hasattr", "setattr", "super", "__dict__", "__class__",
}
NODES = (
    ast.AsyncFor, ast.AsyncFunctionDef, ast.AsyncWith, ast.Await, ast.GeneratorExp, ast.Global, ast.Import, ast.Div,
    ast.AnnAssign, ast.Lambda, ast.Yield, ast.YieldFrom, ast.NamedExpr, ast.MatMult, ast.SetComp, ast.Set,
)


def nodes(tree, *kinds):
    return [node for node in ast.walk(tree) if isinstance(node, kinds)]


def bound_at_top(tree):
    """What a file binds at module level, with how often."""
    names = []
    for node in tree.body:
        if isinstance(node, (ast.FunctionDef, ast.ClassDef)):
            names.append(node.name)
        if isinstance(node, ast.Assign):
            names.extend(target.id for target in node.targets)
        if isinstance(node, ast.ImportFrom):
            names.extend(alias.name for alias in node.names)
    return names


def is_type_of(node):
    """Whether it is `type(x)` of a name."""
    return (isinstance(node, ast.Call) and isinstance(node.func, ast.Name) and node.func.id == "type"
            and len(node.args) == 1 and isinstance(node.args[0], ast.Name))


def of_each_file(check):
    def test(self):
        for name, tree in TREES.items():
            with self.subTest(file=name):
                check(self, tree)
    return test


class TestLanguage(unittest.TestCase):
    def test_files(self):
        self.assertLessEqual(len(FILES), 100)
        for path in PACKAGE.iterdir():
            if path.name != "__pycache__":
                self.assertRegex(path.name, r"^[a-z_0-9]+\.py$")
        for name, text in FILES.items():
            self.assertRegex(text, r"\A[ -~\n]*\Z", name)
            self.assertLessEqual(len(text.splitlines()), 399, name)
            self.assertLessEqual(max(map(len, text.splitlines())), 120, name)
            self.assertFalse(re.search(r"[ \t]$", text, re.MULTILINE), name)

    def test_nothing_is_warned_of(self):
        for name, text in FILES.items():
            with warnings.catch_warnings():
                warnings.simplefilter("error")
                compile(text, name, "exec")

    @of_each_file
    def test_functions_are_short_and_undecorated(self, tree):
        for node in nodes(tree, ast.FunctionDef):
            self.assertLessEqual(node.end_lineno - node.lineno + 1, 40, node.name)
        for node in nodes(tree, ast.FunctionDef, ast.ClassDef):
            self.assertEqual(node.decorator_list, [], node.name)
            self.assertTrue(ast.get_docstring(node) or node.name.startswith("_"), node.name)

    @of_each_file
    def test_module_level(self, tree):
        for number, node in enumerate(tree.body):
            plain = isinstance(node, (ast.ImportFrom, ast.FunctionDef, ast.ClassDef, ast.Assign))
            self.assertTrue(plain or number == 0 and ast.get_docstring(tree), node.lineno)
            if isinstance(node, ast.Assign):
                self.assertTrue(len(node.targets) == 1 and isinstance(node.targets[0], ast.Name), node.lineno)
        names = bound_at_top(tree)
        self.assertEqual(len(names), len(set(names)))

    @of_each_file
    def test_imports_name_the_file_that_defines(self, tree):
        for node in nodes(tree, ast.ImportFrom):
            self.assertEqual((node.level, node.module.split(".")[0]), (0, "onehistory"))
            self.assertIn(node, tree.body)
            other = TREES[node.module.split(".")[1]]
            own = [name for name in bound_at_top(other)
                   if name not in [alias.name for one in nodes(other, ast.ImportFrom) for alias in one.names]]
            for alias in node.names:
                self.assertIsNone(alias.asname)
                self.assertIn(alias.name, own)

    def test_no_ring_of_imports(self):
        left = {name: {node.module.split(".")[1] for node in nodes(tree, ast.ImportFrom)} for name, tree in TREES.items()}
        while left:
            free = [name for name, others in left.items() if not others & set(left)]
            self.assertTrue(free, left)
            left = {name: others for name, others in left.items() if name not in free}

    @of_each_file
    def test_statements_and_expressions(self, tree):
        self.assertEqual([(node.lineno, node) for node in nodes(tree, *NODES)], [])
        for node in nodes(tree, ast.Constant):
            self.assertNotIsInstance(node.value, (float, complex, bytes))
        for node in nodes(tree, ast.ExceptHandler):
            self.assertIsNotNone(node.type)
        for node in nodes(tree, ast.Compare):
            for sign, right in zip(node.ops, node.comparators):
                if isinstance(sign, (ast.Is, ast.IsNot)) and not self.are_types(sign, node.left, right):
                    self.assertTrue(isinstance(right, ast.Constant) and right.value in (None, True, False), node.lineno)

    def are_types(self, sign, *sides):
        """Whether it is `type(a) is type(b)`."""
        return isinstance(sign, ast.Is) and all(is_type_of(side) for side in sides)

    @of_each_file
    def test_types_are_compared_alone(self, tree):
        found = [node for node in nodes(tree, ast.Name) if node.id == "type"]
        fits = [side.func for node in nodes(tree, ast.Compare) if self.are_types(node.ops[0], node.left, node.comparators[0])
                for side in (node.left, node.comparators[0])]
        self.assertEqual(set(found), set(fits))

    @of_each_file
    def test_tables_at_module_level_hold_plain_values_and_are_only_read(self, tree):
        functions = [node.name for node in tree.body if isinstance(node, ast.FunctionDef)]
        for node in tree.body:
            if isinstance(node, ast.Assign):
                named = [name.id for name in nodes(node.value, ast.Name)]
                self.assertEqual([name for name in named if name not in functions], [], node.lineno)
        above = {child: node for node in ast.walk(tree) for child in ast.iter_child_nodes(node)}
        for node in nodes(tree, ast.Name):
            if isinstance(node.ctx, ast.Load) and node.id in TABLES:
                user = above[node]
                reads = isinstance(user, (ast.Compare, ast.For, ast.comprehension))
                reads |= isinstance(user, ast.Subscript) and user.value is node
                reads |= isinstance(user, ast.Attribute) and user.attr in ("get", "items", "keys", "values")
                self.assertTrue(reads, (node.lineno, node.id))

    @of_each_file
    def test_exponents_are_written_numbers_up_to_64(self, tree):
        powers = [(node.lineno, node.right) for node in nodes(tree, ast.BinOp) if isinstance(node.op, ast.Pow)]
        powers += [(node.lineno, node.value) for node in nodes(tree, ast.AugAssign) if isinstance(node.op, ast.Pow)]
        for line, exponent in powers:
            self.assertTrue(isinstance(exponent, ast.Constant) and exponent.value in range(65), line)

    @of_each_file
    def test_no_star_in_an_index(self, tree):
        for node in nodes(tree, ast.Subscript):
            self.assertEqual(nodes(node.slice, ast.Starred), [], node.lineno)

    @of_each_file
    def test_builtins_and_names(self, tree):
        known = set(dir(builtins))
        bound = [node.id for node in nodes(tree, ast.Name) if isinstance(node.ctx, ast.Store)]
        bound += [node.arg for node in nodes(tree, ast.arg)]
        bound += [node.name for node in tree.body if isinstance(node, (ast.FunctionDef, ast.ClassDef))]
        imported = [alias.name for node in nodes(tree, ast.ImportFrom) for alias in node.names]
        classes = [node.name for node in nodes(tree, ast.ClassDef)]
        self.assertEqual(set(bound) & known, set())
        locally = [name for name in bound if name not in bound_at_top(tree)]
        self.assertEqual(set(locally) & set(imported + classes), set())
        for node in nodes(tree, ast.Name):
            if isinstance(node.ctx, ast.Load) and node.id in known:
                self.assertIn(node.id, BUILTINS, node.lineno)
        words = set(bound) | {node.attr for node in nodes(tree, ast.Attribute)}
        words |= {node.name for node in nodes(tree, ast.FunctionDef)}
        self.assertEqual(words & BARRED, set())
        for word in words - SPECIAL:
            self.assertRegex(word, r"^(_|_?[A-Za-z][A-Za-z0-9_]*)$")
            self.assertNotRegex(word, r"^(_wall|_pe_|_dcw_|_enum_|_cm_|_twin_re_|_lay_|_law_|_stub_|_sre|_WallAttr)")
            self.assertNotRegex(word, r"^_(cold|tuplegetter|outside|record|written_out|member_names)[0-9_]*$")

    @of_each_file
    def test_methods(self, tree):
        own = {node.name for tree in TREES.values() for kind in nodes(tree, ast.ClassDef)
               for node in kind.body if isinstance(node, ast.FunctionDef)}
        foreign = {name for kind in (str, int, list, dict, set, bytes) for name in dir(kind)}
        self.assertEqual({name for name in own - SPECIAL if name in foreign}, set())
        for node in nodes(tree, ast.Call):
            if isinstance(node.func, ast.Attribute):
                self.assertIn(node.func.attr, METHODS | own | {"__init__"}, node.lineno)
        for node in nodes(tree, ast.FunctionDef):
            if node.name.startswith("__"):
                self.assertIn(node.name, SPECIAL)

    @of_each_file
    def test_attributes_and_methods_of_one_class_are_apart(self, tree):
        for kind in nodes(tree, ast.ClassDef):
            methods = [node.name for node in kind.body if isinstance(node, ast.FunctionDef)]
            fields = [node.attr for node in nodes(kind, ast.Attribute) if isinstance(node.ctx, ast.Store)]
            self.assertEqual(len(methods), len(set(methods)), kind.name)
            self.assertEqual(set(methods) & set(fields), set(), kind.name)

    def test_no_attribute_has_the_name_of_a_method(self):
        kinds = [kind for tree in TREES.values() for kind in nodes(tree, ast.ClassDef)]
        methods = {node.name for kind in kinds for node in kind.body if isinstance(node, ast.FunctionDef)}
        fields = {node.attr for kind in kinds for node in nodes(kind, ast.Attribute) if isinstance(node.ctx, ast.Store)}
        self.assertEqual(methods & fields, set())

    @of_each_file
    def test_strings(self, tree):
        documents = [ast.get_docstring(node, clean=False)
                     for node in nodes(tree, ast.Module, ast.ClassDef, ast.FunctionDef)]
        for node in nodes(tree, ast.Constant):
            if isinstance(node.value, str) and node.value not in documents:
                self.assertNotRegex(node.value, r"%|\b(type|typing|enum|Enum)\b")


if __name__ == "__main__":
    unittest.main()
