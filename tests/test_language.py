"""The package keeps to its small part of Python, as far as its files' form shows it."""

import ast
import builtins
import os
import re
import unittest

ROOT = os.path.dirname(os.path.dirname(os.path.abspath(__file__)))
PACKAGE = os.path.join(ROOT, "oftentogether")

NODES = {
    "Module", "FunctionDef", "arguments", "arg", "ClassDef", "Return", "Assign", "AugAssign",
    "For", "While", "If", "Raise", "Try", "ExceptHandler", "Expr", "Pass", "Break", "Continue",
    "ImportFrom", "alias", "BoolOp", "And", "Or", "UnaryOp", "Not", "USub", "Invert", "BinOp",
    "Add", "Sub", "Mult", "FloorDiv", "Mod", "Pow", "LShift", "RShift", "BitOr", "BitAnd",
    "BitXor", "Compare", "Eq", "NotEq", "Lt", "LtE", "Gt", "GtE", "Is", "IsNot", "In", "NotIn",
    "IfExp", "Call", "keyword", "Attribute", "Subscript", "Slice", "Name", "Load", "Store",
    "List", "Tuple", "Dict", "Set", "ListComp", "comprehension", "Lambda", "JoinedStr",
    "FormattedValue", "Constant"}

ERRORS = set("""Exception ValueError TypeError KeyError IndexError LookupError ZeroDivisionError
    ArithmeticError OverflowError RuntimeError NotImplementedError AttributeError
    StopIteration""".split())

OWN = set("""len range enumerate zip min max sum abs sorted reversed int str bool list tuple dict
    set frozenset isinstance ord repr any all divmod""".split()) | ERRORS

WORDS = set("""type typing typing_extensions enum Enum IntEnum StrEnum Flag IntFlag Generic
    Protocol ABC ABCMeta namedtuple NamedTuple TypedDict TYPE_CHECKING abstractmethod""".split())

PARTS = ("dataclass", "overload", "contextmanager")

METHODS = set("""append clear copy count endswith extend find get index insert isalnum isalpha
    isdigit islower isspace isupper items join keys ljust lower lstrip partition pop remove replace
    reverse rfind rjust rpartition rsplit rstrip setdefault split splitlines startswith strip update
    upper values zfill bit_length""".split())

SPECIAL = {"__init__", "__eq__", "__repr__", "__str__", "__len__"}

KEYWORDS = {"sorted": {"key", "reverse"}, "min": {"key", "default"}, "max": {"key", "default"},
            "sum": {"start"}, "enumerate": {"start"}, "zip": {"strict"}}

PLAIN = re.compile(r"[A-Za-z][A-Za-z0-9_]*\Z")


def sources():
    found = []
    for name in sorted(os.listdir(PACKAGE)):
        if name != "__pycache__":
            with open(os.path.join(PACKAGE, name), encoding="utf-8", newline="") as file:
                found.append((name, file.read()))
    return found


def parsed():
    return [(name, text, ast.parse(text, name)) for name, text in sources()]


def bound_names(tree):
    found = []
    for node in ast.walk(tree):
        if isinstance(node, (ast.FunctionDef, ast.ClassDef)):
            found.append(node.name)
        elif isinstance(node, ast.arg):
            found.append(node.arg)
        elif isinstance(node, ast.Name) and isinstance(node.ctx, ast.Store):
            found.append(node.id)
        elif isinstance(node, ast.ExceptHandler) and node.name:
            found.append(node.name)
        elif isinstance(node, ast.ImportFrom):
            found.extend(name.asname or name.name for name in node.names)
    return found


def drawn_from(tree):
    return [(node.module.split(".")[1], [part.name for part in node.names])
            for node in tree.body if isinstance(node, ast.ImportFrom)]


def names_within(function):
    return ({node.arg for node in ast.walk(function) if isinstance(node, ast.arg)}
            | {node.id for node in ast.walk(function)
               if isinstance(node, ast.Name) and isinstance(node.ctx, ast.Store)})


def own_methods(tree):
    return {part.name for node in ast.walk(tree) if isinstance(node, ast.ClassDef)
            for part in node.body if isinstance(part, ast.FunctionDef)}


def own_values(tree):
    return {node.attr for node in ast.walk(tree)
            if isinstance(node, ast.Attribute) and isinstance(node.ctx, ast.Store)}


class Language(unittest.TestCase):
    def test_files_have_plain_names(self):
        names = [name for name, text in sources()]
        self.assertIn("__init__.py", names)
        for name in names:
            self.assertRegex(name, r"\A([a-z][a-z0-9_]*|__init__|__main__)\.py\Z")

    def test_signs_and_sizes(self):
        for name, text, tree in parsed():
            self.assertRegex(text, r"\A[ -~\n]*\Z", name)
            lines = text.split("\n")
            self.assertLessEqual(len(lines), 400, name)
            self.assertLessEqual(max(len(line) for line in lines), 120, name)
            for node in ast.walk(tree):
                if isinstance(node, ast.FunctionDef):
                    self.assertLessEqual(node.end_lineno - node.lineno + 1, 40, (name, node.name))

    def test_words(self):
        for name, text, tree in parsed():
            self.assertEqual(set(re.findall(r"[A-Za-z0-9_]+", text)) & WORDS, set(), name)
            for part in PARTS:
                self.assertNotIn(part, text, name)

    def test_only_listed_forms(self):
        for name, text, tree in parsed():
            for node in ast.walk(tree):
                told = (name, type(node).__name__, getattr(node, "lineno", None))
                self.assertIn(told[1], NODES, told)
                if isinstance(node, ast.Constant):
                    self.assertIn(type(node.value), (int, str, bool, type(None)), told)
                if isinstance(node, (ast.FunctionDef, ast.ClassDef)):
                    self.assertEqual(node.decorator_list, [], told)
                if isinstance(node, ast.arguments):
                    self.assertFalse(node.vararg or node.kwarg or node.kwonlyargs or node.posonlyargs, name)
                if isinstance(node, (ast.For, ast.While)):
                    self.assertEqual(node.orelse, [], told)
                if isinstance(node, ast.Assign):
                    self.assertEqual(len(node.targets), 1, told)
                if isinstance(node, ast.ListComp):
                    self.assertEqual(len(node.generators), 1, told)
                    self.assertLessEqual(len(node.generators[0].ifs), 1, told)
                if isinstance(node, ast.ClassDef):
                    self.assertLessEqual(len(node.bases), 1, told)
                    self.assertLessEqual({type(part) for part in node.body},
                                         {ast.FunctionDef, ast.Pass}, told)

    def test_powers_have_written_exponents(self):
        for name, text, tree in parsed():
            for node in ast.walk(tree):
                if isinstance(node, ast.BinOp) and isinstance(node.op, ast.Pow):
                    self.assertIsInstance(node.right, ast.Constant, (name, node.lineno))
                    self.assertLessEqual(node.right.value, 64, (name, node.lineno))

    def test_imports_are_of_the_package_alone(self):
        for name, text, tree in parsed():
            for node in ast.walk(tree):
                if isinstance(node, ast.ImportFrom):
                    self.assertIn(node, tree.body, name)
                    self.assertEqual(node.level, 0, name)
                    self.assertRegex(node.module, r"\Aoftentogether\.[a-z0-9_]+\Z", name)
                    self.assertNotIn("*", [part.name for part in node.names], name)

    def test_names(self):
        for name, text, tree in parsed():
            bound = bound_names(tree)
            for word in bound:
                self.assertTrue(word in SPECIAL or PLAIN.match(word), (name, word))
                self.assertNotIn(word, dir(builtins), name)
            for node in ast.walk(tree):
                if isinstance(node, ast.Name):
                    self.assertIn(node.id, OWN | set(bound), (name, node.lineno))

    def test_each_name_once_at_the_top(self):
        for name, text, tree in parsed():
            top = []
            for node in tree.body:
                if isinstance(node, (ast.FunctionDef, ast.ClassDef)):
                    top.append(node.name)
                elif isinstance(node, ast.ImportFrom):
                    top.extend(part.name for part in node.names)
                elif isinstance(node, ast.Assign):
                    top.append(node.targets[0].id)
                else:
                    self.assertIsInstance(node, ast.Expr, name)
                    self.assertIs(node, tree.body[0], name)
            self.assertEqual(len(top), len(set(top)), name)

    def test_names_are_drawn_from_the_file_that_defines_them(self):
        defined = {}
        for name, text, tree in parsed():
            defined[name[:-len(".py")]] = {node.name for node in tree.body if hasattr(node, "name")} | {
                node.targets[0].id for node in tree.body if isinstance(node, ast.Assign)}
        for name, text, tree in parsed():
            for module, names in drawn_from(tree):
                self.assertLessEqual(set(names), defined[module], name)

    def test_no_two_files_draw_from_one_another(self):
        draws = {name[:-len(".py")]: [module for module, names in drawn_from(tree)]
                 for name, text, tree in parsed()}
        self.assertEqual(draws["__init__"], [])
        while draws:
            ends = [name for name in draws if not set(draws[name]) & set(draws)]
            self.assertNotEqual(ends, [], draws)
            for name in ends:
                del draws[name]

    def test_no_local_is_called_like_a_class_or_an_import_of_its_file(self):
        for name, text, tree in parsed():
            taken = {part for module, names in drawn_from(tree) for part in names}
            taken |= {node.name for node in tree.body if isinstance(node, ast.ClassDef)}
            for node in ast.walk(tree):
                if isinstance(node, ast.FunctionDef):
                    self.assertEqual(names_within(node) & taken, set(), (name, node.name))

    def test_is_stands_beside_none_true_and_false_alone(self):
        for name, text, tree in parsed():
            for node in ast.walk(tree):
                if isinstance(node, ast.Compare):
                    for kind, right in zip(node.ops, node.comparators):
                        if isinstance(kind, (ast.Is, ast.IsNot)):
                            self.assertIsInstance(right, ast.Constant, (name, node.lineno))
                            self.assertIn(right.value, (None, True, False), (name, node.lineno))

    def test_keywords_of_python_s_own(self):
        for name, text, tree in parsed():
            for node in ast.walk(tree):
                if isinstance(node, ast.Call) and isinstance(node.func, ast.Name) and node.func.id in OWN:
                    given = {part.arg for part in node.keywords}
                    self.assertLessEqual(given, KEYWORDS.get(node.func.id, set()), (name, node.lineno))

    def test_methods_and_values(self):
        trees = [tree for name, text, tree in parsed()]
        methods = set().union(*[own_methods(tree) for tree in trees])
        values = set().union(*[own_values(tree) for tree in trees])
        self.assertEqual(methods & values, set())
        for tree in trees:
            for node in ast.walk(tree):
                if isinstance(node, ast.Attribute):
                    self.assertIn(node.attr, METHODS | methods | values, node.lineno)


if __name__ == "__main__":
    unittest.main()
