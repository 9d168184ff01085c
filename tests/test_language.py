"""The package keeps to the part of Python that it is written in, as far as its form alone can show it."""

import ast
import builtins
import os
import re
import unittest

TOP = os.path.dirname(os.path.dirname(os.path.abspath(__file__)))
PACKAGE = os.path.join(TOP, "greywalk")

NODES = """
Module Import ImportFrom alias FunctionDef ClassDef Lambda arguments arg
Assign AugAssign If While For Return Break Continue Pass Raise Try ExceptHandler Expr
Constant List Tuple Dict Set BinOp UnaryOp BoolOp Compare IfExp Call keyword Attribute Subscript Slice
ListComp comprehension JoinedStr FormattedValue Name Load Store
Add Sub Mult FloorDiv Mod Pow BitAnd BitOr BitXor LShift RShift Invert USub UAdd Not And Or
Eq NotEq Lt LtE Gt GtE Is IsNot In NotIn
""".split()

OWN_NAMES = """
len range enumerate zip min max sum abs sorted reversed int str bool list tuple dict set frozenset isinstance
ord repr any all divmod Exception ValueError TypeError KeyError IndexError LookupError ZeroDivisionError
ArithmeticError OverflowError RuntimeError NotImplementedError AttributeError StopIteration
""".split()

METHODS = """
append clear copy count endswith extend find get index insert isalnum isalpha isdigit islower isspace isupper
items join keys ljust lower lstrip partition pop remove replace reverse rfind rjust rpartition rsplit rstrip
setdefault split splitlines startswith strip update upper values zfill bit_length
""".split()

UNDERSCORED = ("__init__", "__eq__", "__repr__", "__str__", "__len__")

WORDS_OUT = """
type typing typing_extensions enum Enum IntEnum StrEnum Flag IntFlag Generic Protocol ABC ABCMeta namedtuple
NamedTuple TypedDict TYPE_CHECKING abstractmethod
""".split()

NAMES_OUT = "register mro elements open input version_info with_traceback add_note format format_map".split()


def sources():
    """Each file of the package by its name, with its text and its tree."""
    found = {}
    for name in sorted(os.listdir(PACKAGE)):
        if name != "__pycache__":
            with open(os.path.join(PACKAGE, name), encoding="utf-8", newline="") as file:
                text = file.read()
            found[name] = (text, ast.parse(text))
    return found


def bound(node):
    """The names that a node binds or stores a value under."""
    if isinstance(node, (ast.FunctionDef, ast.ClassDef)):
        return [node.name]
    if isinstance(node, ast.arg):
        return [node.arg]
    if isinstance(node, ast.Name) and isinstance(node.ctx, ast.Store):
        return [node.id]
    if isinstance(node, ast.Attribute) and isinstance(node.ctx, ast.Store):
        return [node.attr]
    if isinstance(node, ast.alias):
        return [node.asname or node.name]
    return []


def bound_at_top(tree):
    """The names that a file's top binds, one entry for each time."""
    names = []
    for node in tree.body:
        parts = node.names if isinstance(node, ast.ImportFrom) else getattr(node, "targets", [node])
        for part in parts:
            names.extend(bound(part))
    return names


def is_text(node):
    return isinstance(node, ast.Expr) and isinstance(node.value, ast.Constant)


class Language(unittest.TestCase):
    def setUp(self):
        self.files = sources()

    def nodes(self):
        for name, (text, tree) in self.files.items():
            for node in ast.walk(tree):
                yield name + ":" + str(getattr(node, "lineno", 0)), node

    def test_files_are_plain(self):
        self.assertIn("__init__.py", self.files)
        for name in self.files:
            self.assertRegex(name, r"\A(__init__|__main__|[a-z][a-z0-9_]*)\.py\Z")

    def test_signs_and_sizes(self):
        for name, (text, tree) in self.files.items():
            self.assertRegex(text, r"\A[ -~\n]*\Z", name)
            self.assertLessEqual(len(text.split("\n")), 400, name)
            self.assertLessEqual(max(len(line) for line in text.split("\n")), 120, name)
        for where, node in self.nodes():
            if isinstance(node, ast.FunctionDef):
                self.assertLessEqual(node.end_lineno - node.lineno + 1, 40, where)

    def test_words_that_stand_nowhere(self):
        for name, (text, tree) in self.files.items():
            words = re.findall(r"\w+", text)
            self.assertEqual([word for word in words if word in WORDS_OUT], [], name)
            self.assertNotRegex(text, "dataclass|overload|contextmanager", name)

    def test_the_top_of_a_file(self):
        allowed = (ast.ImportFrom, ast.FunctionDef, ast.ClassDef, ast.Assign)
        for name, (text, tree) in self.files.items():
            for node in tree.body if name != "__main__.py" else []:
                self.assertTrue(is_text(node) or isinstance(node, allowed), (name, node.lineno))

    def test_imports(self):
        drawn = {}
        for name, (text, tree) in self.files.items():
            drawn[name] = []
            for node in ast.walk(tree):
                if isinstance(node, ast.ImportFrom):
                    self.assertIn(node, tree.body, name)
                    self.assertEqual(node.level, 0, name)
                    self.assertRegex(node.module, r"\Agreywalk\.[a-z_]+\Z", name)
                    self.assertNotIn("*", [alias.name for alias in node.names])
                    drawn[name].append(node.module.split(".")[1] + ".py")
                if isinstance(node, ast.Import):
                    self.assertEqual((name, node.names[0].name), ("__main__.py", "sys"))
        self.assertEqual(drawn["__init__.py"], [])
        while drawn:
            ready = [name for name in drawn if not [other for other in drawn[name] if other in drawn]]
            self.assertTrue(ready, "files draw from one another: " + str(drawn))
            drawn = {name: drawn[name] for name in drawn if name not in ready}

    def test_a_name_is_drawn_from_the_file_that_defines_it(self):
        for name, (text, tree) in self.files.items():
            for node in tree.body:
                if isinstance(node, ast.ImportFrom):
                    other = self.files[node.module.split(".")[1] + ".py"][1]
                    own = [bound_at_top(ast.Module([part], [])) for part in other.body
                           if not isinstance(part, ast.ImportFrom)]
                    for alias in node.names:
                        self.assertIn([alias.name], own, name)

    def test_each_name_once_at_the_top(self):
        for name, (text, tree) in self.files.items():
            names = bound_at_top(tree)
            self.assertEqual(len(names), len(set(names)), name)

    def test_no_local_is_called_like_a_class_or_an_import(self):
        for name, (text, tree) in self.files.items():
            taken = []
            for node in tree.body:
                if isinstance(node, (ast.ImportFrom, ast.ClassDef)):
                    taken.extend(bound_at_top(ast.Module([node], [])))
            for part in tree.body:
                if isinstance(part, (ast.FunctionDef, ast.ClassDef)):
                    for node in ast.walk(part):
                        if isinstance(node, (ast.arg, ast.Name)):
                            self.assertEqual([local for local in bound(node) if local in taken], [], name)

    def test_lists_and_dicts_of_the_top(self):
        for name, (text, tree) in self.files.items():
            kept = []
            for part in tree.body:
                if isinstance(part, ast.Assign) and isinstance(part.value, (ast.List, ast.Dict)):
                    kept.append(part.targets[0].id)
                    inner = [node for node in ast.walk(part.value) if isinstance(node, (ast.List, ast.Dict))]
                    self.assertEqual(inner, [part.value], name)
            # Read by an index, by `in` and by `get`: each other mention but the binding itself is out.
            for node in ast.walk(tree):
                if isinstance(node, ast.Subscript) and isinstance(node.value, ast.Name) and node.value.id in kept:
                    self.assertIsInstance(node.ctx, ast.Load, name)
            read = [node.value for node in ast.walk(tree) if isinstance(node, ast.Subscript)]
            for node in ast.walk(tree):
                if isinstance(node, ast.Compare) and isinstance(node.ops[0], (ast.In, ast.NotIn)):
                    read.append(node.comparators[0])
                if isinstance(node, ast.Call) and isinstance(node.func, ast.Attribute) and node.func.attr == "get":
                    read.append(node.func.value)
            for node in ast.walk(tree):
                if isinstance(node, ast.Name) and node.id in kept and isinstance(node.ctx, ast.Load):
                    self.assertIn(node, read, name)

    def test_lists_and_dicts_of_the_top_are_not_drawn(self):
        kept = []
        for name, (text, tree) in self.files.items():
            for part in tree.body:
                if isinstance(part, ast.Assign) and isinstance(part.value, (ast.List, ast.Dict)):
                    kept.append(part.targets[0].id)
        for where, node in self.nodes():
            if isinstance(node, ast.ImportFrom):
                self.assertEqual([alias.name for alias in node.names if alias.name in kept], [], where)

    def test_classes_are_called_or_named_alone(self):
        classes = [node.name for where, node in self.nodes() if isinstance(node, ast.ClassDef)]
        fit = []
        for where, node in self.nodes():
            if isinstance(node, ast.Call):
                fit.append(node.func)
                if isinstance(node.func, ast.Name) and node.func.id == "isinstance":
                    fit.extend(ast.walk(node.args[1]))
            if isinstance(node, ast.ClassDef):
                fit.extend(node.bases)
            if isinstance(node, ast.ExceptHandler):
                fit.extend(ast.walk(node.type))
            if isinstance(node, ast.Attribute) and node.attr == "__init__":
                fit.append(node.value)
        for where, node in self.nodes():
            if isinstance(node, ast.Name) and node.id in classes:
                self.assertIn(node, fit, where)

    def test_numbers_and_texts(self):
        for where, node in self.nodes():
            if isinstance(node, ast.Constant) and isinstance(node.value, str):
                self.assertNotIn("%", node.value, where)
            if isinstance(node, ast.BinOp) and isinstance(node.op, ast.Pow):
                self.assertIsInstance(node.right, ast.Constant, where)
            if isinstance(node, ast.FormattedValue):
                self.assertIsInstance(node.value, ast.Name, where)
                self.assertIsNone(node.format_spec, where)

    def test_forms(self):
        for where, node in self.nodes():
            self.assertIn(type(node).__name__, NODES, where)
            if isinstance(node, (ast.For, ast.While)):
                self.assertEqual(node.orelse, [], where)
            if isinstance(node, ast.Try):
                self.assertEqual(node.finalbody, [], where)
            if isinstance(node, ast.Assign):
                self.assertEqual(len(node.targets), 1, where)
            if isinstance(node, (ast.FunctionDef, ast.ClassDef)):
                self.assertEqual(node.decorator_list, [], where)
            if isinstance(node, ast.arguments):
                self.assertEqual((node.vararg, node.kwarg, node.kwonlyargs, node.posonlyargs), (None, None, [], []))
            if isinstance(node, ast.Constant):
                self.assertIn(type(node.value), (int, str, bool, type(None)), where)
            if isinstance(node, ast.Expr) and not is_text(node):
                self.assertIsInstance(node.value, ast.Call, where)
            if isinstance(node, ast.ListComp):
                self.assertEqual(len(node.generators), 1, where)
                self.assertLessEqual(len(node.generators[0].ifs), 1, where)

    def test_is_stands_beside_three_values_alone(self):
        for where, node in self.nodes():
            if isinstance(node, ast.Compare):
                for operator, side in zip(node.ops, node.comparators):
                    if isinstance(operator, (ast.Is, ast.IsNot)):
                        self.assertIsInstance(side, ast.Constant, where)
                        self.assertTrue(side.value is None or isinstance(side.value, bool), where)

    def test_names(self):
        for where, node in self.nodes():
            for name in bound(node):
                if name not in UNDERSCORED and name != "__all__":
                    self.assertRegex(name, r"\A[A-Za-z][A-Za-z0-9_]*\Z", where)
                    self.assertNotIn(name, NAMES_OUT, where)
                if isinstance(node, (ast.arg, ast.Name)):
                    self.assertFalse(hasattr(builtins, name), where)
            if isinstance(node, ast.Name) and hasattr(builtins, node.id) and not where.startswith("__main__"):
                self.assertIn(node.id, OWN_NAMES, where)

    def test_classes_hold_methods_alone(self):
        for where, node in self.nodes():
            if isinstance(node, ast.ClassDef):
                self.assertLessEqual(len(node.bases), 1, where)
                names = [part.name for part in node.body if isinstance(part, ast.FunctionDef)]
                self.assertEqual(len(names), len(set(names)), where)
                for part in node.body:
                    self.assertIsInstance(part, (ast.FunctionDef, ast.Pass), where)

    def test_methods_and_values_of_objects(self):
        methods = []
        kept = []
        for where, node in self.nodes():
            if isinstance(node, ast.ClassDef):
                methods.extend([part.name for part in node.body if isinstance(part, ast.FunctionDef)])
            if isinstance(node, ast.Attribute):
                kept.extend(bound(node))
        self.assertEqual(set(methods) & set(kept), set())
        for where, node in self.nodes():
            if isinstance(node, ast.Call) and isinstance(node.func, ast.Attribute):
                if not where.startswith("__main__"):
                    self.assertIn(node.func.attr, METHODS + methods + ["__init__"], where)


if __name__ == "__main__":
    unittest.main()
