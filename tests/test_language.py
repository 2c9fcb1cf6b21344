"""Those rules of LANGUAGE.md that can be seen file by file."""

import ast
import builtins
import pathlib
import re
import unittest

from onewaybits import errors

PACKAGE = pathlib.Path(__file__).resolve().parent.parent / "onewaybits"
BUILTINS = (
    "len range enumerate zip min max sum abs sorted reversed int str bool list tuple dict set isinstance ord repr any"
    " all divmod pow map iter next super property ValueError TypeError KeyError IndexError LookupError"
    " ZeroDivisionError NotImplemented"
).split()
METHODS = (
    "append clear copy count endswith extend find get index insert isalnum isalpha isdigit islower isspace isupper"
    " items join keys ljust lower lstrip partition pop remove replace reverse rfind rjust rpartition rsplit rstrip"
    " setdefault split splitlines startswith strip update upper values zfill bit_length add discard isascii isdecimal"
    " removeprefix removesuffix rindex"
).split()
DUNDERS = ["__init__", "__eq__", "__len__", "__repr__", "__str__"]
BARRED_WORDS = (
    "register mro elements open input law version_info with_traceback add_note type typing enum Enum namedtuple"
    " dataclass"
).split()
# Some of these LANGUAGE.md allows, with conditions of their own; the package does without them.
BARRED_NODES = (
    ast.AsyncFunctionDef, ast.AsyncFor, ast.AsyncWith, ast.Await, ast.Global, ast.GeneratorExp, ast.Import, ast.Div,
    ast.AnnAssign, ast.Set, ast.SetComp, ast.Starred, ast.Lambda, ast.NamedExpr, ast.Nonlocal, ast.Match, ast.With,
    ast.Yield,
    ast.YieldFrom, ast.Assert, ast.Delete,
)
# Beginnings that no name has, beside those of LANGUAGE.md that the names below would have, too.
BARRED_BEGINNINGS = re.compile(
    r"_(wall|pe_|dcw_|enum_|cm_|twin_re_|lay_|law_|stub_|sre|WallAttr|cold[_0-9]*$|tuplegetter[_0-9]*$|outside[_0-9]*$"
    r"|record[_0-9]*$|written_out[_0-9]*$|member_names[_0-9]*$)"
)


def files():
    return sorted(PACKAGE.glob("*.py"))


def nodes(kind):
    """Return all nodes of a kind, each with its place."""
    found = []
    for path in files():
        for node in ast.walk(ast.parse(path.read_text())):
            if isinstance(node, kind):
                found.append((f"{path.name}:{getattr(node, 'lineno', 0)}", node))
    return found


def bound_names():
    """Return all names that the package binds, but those of methods and attributes, each with its place."""
    found = [(place, node.id) for place, node in nodes(ast.Name) if not isinstance(node.ctx, ast.Load)]
    found += [(place, node.arg) for place, node in nodes(ast.arg)]
    for path in files():
        for node in ast.parse(path.read_text()).body:
            if isinstance(node, (ast.FunctionDef, ast.ClassDef)):
                found.append((f"{path.name}:{node.lineno}", node.name))
    return found


def defined_in(path):
    found = []
    for node in ast.parse(path.read_text()).body:
        if isinstance(node, (ast.FunctionDef, ast.ClassDef)):
            found.append(node.name)
        elif isinstance(node, ast.Assign):
            found.extend(target.id for target in node.targets)
    return found


class LanguageTest(unittest.TestCase):

    def test_the_folder_has_plain_files_alone(self):
        for path in PACKAGE.iterdir():
            if path.name != "__pycache__":
                self.assertRegex(path.name, r"^[a-z0-9_]+\.py$")

    def test_characters_and_sizes(self):
        for path in files():
            text = path.read_text()
            self.assertTrue(all(" " <= sign <= "~" or sign == "\n" for sign in text), path.name)
            self.assertLessEqual(len(text.splitlines()), 399, path.name)
            self.assertLessEqual(max([len(line) for line in text.splitlines()]), 120, path.name)

    def test_functions_are_small_and_plain(self):
        for place, node in nodes(ast.FunctionDef):
            self.assertLessEqual(node.end_lineno - node.lineno + 1, 40, place)
            self.assertEqual((node.decorator_list, node.returns), ([], None), place)
            self.assertFalse(node.name.startswith("__") and node.name not in DUNDERS, place)

    def test_imports_name_the_file_that_defines(self):
        for place, node in nodes(ast.ImportFrom):
            package, _, name = node.module.partition(".")
            self.assertEqual((package, node.level), ("onewaybits", 0), place)
            for alias in node.names:
                self.assertIn(alias.name, defined_in(PACKAGE / f"{name}.py"), place)
                self.assertIsNone(alias.asname, place)

    def test_no_two_files_import_from_each_other(self):
        reached = {path.stem: set() for path in files()}
        for place, node in nodes(ast.ImportFrom):
            reached[place.partition(".py")[0]].add(node.module.partition(".")[2])
        for _ in reached:
            for name in reached:
                reached[name] |= {further for known in reached[name] for further in reached[known]}
        self.assertEqual([name for name in reached if name in reached[name]], [])

    def test_nothing_barred(self):
        self.assertEqual([place for place, _ in nodes(BARRED_NODES)], [])
        for place, node in nodes(ast.Constant):
            self.assertNotIsInstance(node.value, (float, complex, bytes), place)
            self.assertFalse(isinstance(node.value, str) and "%" in node.value, place)

    def test_exponents_are_literals(self):
        for place, node in nodes(ast.BinOp):
            if isinstance(node.op, ast.Pow):
                self.assertIsInstance(node.right, ast.Constant, place)
                self.assertTrue(0 <= node.right.value <= 64, place)

    def test_is_stands_beside_none_true_and_false(self):
        for place, node in nodes(ast.Compare):
            for sign, right in zip(node.ops, node.comparators):
                if isinstance(sign, (ast.Is, ast.IsNot)):
                    self.assertIsInstance(right, ast.Constant, place)

    def test_the_builtins_are_allowed_and_keep_their_meaning(self):
        every = vars(builtins)
        for place, node in nodes(ast.Name):
            if node.id in every and node.id not in BUILTINS:
                self.fail(f"{place}: {node.id}")
        for place, name in bound_names():
            self.assertNotIn(name, every, place)

    def test_names_and_words(self):
        for place, name in bound_names():
            self.assertFalse(name.startswith("__") or name in BARRED_WORDS, f"{place}: {name}")
        for place, node in nodes(ast.Attribute):
            self.assertFalse(node.attr.startswith("__") or node.attr in BARRED_WORDS, place)

    def test_no_name_has_a_barred_beginning(self):
        for place, name in bound_names() + [(place, node.name) for place, node in nodes(ast.FunctionDef)]:
            self.assertIsNone(BARRED_BEGINNINGS.match(name), f"{place}: {name}")

    def test_no_local_name_is_that_of_a_class_or_an_import_of_its_file(self):
        for path in files():
            body = ast.parse(path.read_text()).body
            taken = [node.name for node in body if isinstance(node, ast.ClassDef)]
            taken += [alias.name for node in body if isinstance(node, ast.ImportFrom) for alias in node.names]
            for place, name in bound_names():
                if place.startswith(f"{path.name}:") and name in taken:
                    self.assertIn(name, [node.name for node in body if isinstance(node, ast.ClassDef)], place)

    def test_module_level_has_plain_values_alone(self):
        for path in files():
            for node in ast.parse(path.read_text()).body:
                place = f"{path.name}:{node.lineno}"
                if isinstance(node, ast.Expr):
                    self.assertIsInstance(node.value, ast.Constant, place)
                elif isinstance(node, ast.Assign):
                    self.assertEqual([type(target) for target in node.targets], [ast.Name], place)
                    barred = (ast.Call, ast.comprehension, ast.Attribute, ast.Subscript, ast.IfExp)
                    self.assertFalse(any(isinstance(part, barred) for part in ast.walk(node)), place)
                else:
                    self.assertIsInstance(node, (ast.ImportFrom, ast.FunctionDef, ast.ClassDef), place)

    def test_default_values_are_plain(self):
        for place, node in nodes(ast.FunctionDef):
            for value in node.args.defaults + node.args.kw_defaults:
                self.assertIsInstance(value, ast.Constant, place)
            self.assertEqual((node.args.vararg, node.args.kwarg, node.args.posonlyargs, node.args.kwonlyargs),
                             (None, None, [], []))

    def test_own_errors_alone_are_caught_and_raised(self):
        own = [name for name, value in vars(errors).items() if isinstance(value, type)]
        for place, node in nodes(ast.ExceptHandler):
            caught = node.type.elts if isinstance(node.type, ast.Tuple) else [node.type]
            self.assertTrue(all(name.id in own for name in caught), place)
        for place, node in nodes(ast.Raise):
            self.assertIsInstance(node.exc, ast.Call, place)
            self.assertIn(node.exc.func.id, own, place)

    def test_attributes_are_assigned_in_the_package_and_are_no_methods(self):
        assigned = {node.attr for _, node in nodes(ast.Attribute) if isinstance(node.ctx, ast.Store)}
        methods = {part.name for _, node in nodes(ast.ClassDef) for part in node.body
                   if isinstance(part, ast.FunctionDef)}
        for place, node in nodes(ast.Attribute):
            if isinstance(node.ctx, ast.Load):
                self.assertIn(node.attr, assigned | methods | set(METHODS), place)
        for place, node in nodes(ast.ClassDef):
            own = {part.attr for part in ast.walk(node)
                   if isinstance(part, ast.Attribute) and isinstance(part.ctx, ast.Store)}
            self.assertEqual(own & {part.name for part in node.body if isinstance(part, ast.FunctionDef)}, set(), place)

    def test_classes_stand_where_classes_may(self):
        classes = [node.name for _, node in nodes(ast.ClassDef)]
        for path in files():
            for node in ast.walk(ast.parse(path.read_text())):
                if isinstance(node, ast.Call):
                    passed = node.args[:1] if isinstance(node.func,
                                                         ast.Name) and node.func.id == "isinstance" else node.args
                    self.assertFalse(any(isinstance(value, ast.Name) and value.id in classes for value in passed),
                                     path.name)

    def test_called_methods_are_allowed_or_own(self):
        own = [node.name for _, node in nodes(ast.FunctionDef)]
        for place, node in nodes(ast.Call):
            if isinstance(node.func, ast.Attribute):
                self.assertIn(node.func.attr, own + METHODS, place)

    def test_own_methods_have_no_name_of_builtin_values(self):
        taken = [name for kind in (str, int, list, dict, set, bytes) for name in dir(kind) if not name.startswith("__")]
        for place, node in nodes(ast.ClassDef):
            for part in node.body:
                if isinstance(part, ast.FunctionDef):
                    self.assertNotIn(part.name, [name for name in taken if name not in METHODS], place)
