"""The rules of the language part that can be seen in the package's files one by one."""

import ast
import os
import re
import unittest

FOLDER = os.path.join(os.path.dirname(os.path.dirname(os.path.abspath(__file__))), "sampledgrades")

NODES = """
Module FunctionDef arguments arg ClassDef Return Assign AugAssign For While If Raise Try ExceptHandler ImportFrom
alias Expr Pass Break Continue BoolOp And Or BinOp Add Sub Mult Mod Pow FloorDiv LShift RShift BitOr BitXor BitAnd
UnaryOp Invert Not USub UAdd Lambda IfExp Dict List Tuple ListComp comprehension Compare Eq NotEq Lt LtE Gt GtE Is
IsNot In NotIn Call Constant Attribute Subscript Slice Name Load Store keyword JoinedStr FormattedValue
""".split()

BUILT_IN = """
len range enumerate zip min max sum abs sorted reversed int str bool list tuple dict set frozenset isinstance ord repr
any all divmod Exception ValueError TypeError KeyError IndexError LookupError ZeroDivisionError ArithmeticError
OverflowError RuntimeError NotImplementedError StopIteration
""".split()

METHODS = """
append clear copy count endswith extend find get index insert isalnum isalpha isdigit islower isspace isupper items
join keys ljust lower lstrip partition pop remove replace reverse rfind rjust rpartition rsplit rstrip setdefault split
splitlines startswith strip update upper values zfill bit_length
""".split()

WORDS = """
type typing typing_extensions enum Enum IntEnum StrEnum Flag IntFlag Generic Protocol ABC ABCMeta namedtuple NamedTuple
TypedDict TYPE_CHECKING abstractmethod
""".split()


def package_files():
    return sorted(name for name in os.listdir(FOLDER) if name != "__pycache__")


def read(name):
    with open(os.path.join(FOLDER, name), encoding="utf-8", newline="") as file:
        return file.read()


def top_names(tree):
    names = []
    for node in tree.body:
        if isinstance(node, (ast.FunctionDef, ast.ClassDef)):
            names.append(node.name)
        elif isinstance(node, ast.Assign):
            names.extend(target.id for target in node.targets)
        elif isinstance(node, ast.ImportFrom):
            names.extend(alias.asname or alias.name for alias in node.names)
    return names


def bound_names(tree):
    names = [node.arg for node in ast.walk(tree) if isinstance(node, ast.arg)]
    names.extend(node.id for node in ast.walk(tree) if isinstance(node, ast.Name) and isinstance(node.ctx, ast.Store))
    names.extend(node.name for node in ast.walk(tree) if isinstance(node, (ast.FunctionDef, ast.ClassDef)))
    return names


def parsed_files():
    return [(name, read(name), ast.parse(read(name))) for name in package_files()]


class Language(unittest.TestCase):
    def test_files(self):
        self.assertIn("__init__.py", package_files())
        for name in package_files():
            self.assertRegex(name, r"\A(__init__|[a-z][a-z0-9_]*)\.py\Z")

    def test_sizes_and_signs(self):
        for name, text, tree in parsed_files():
            with self.subTest(file=name):
                lines = text.split("\n")
                self.assertLessEqual(len(lines), 400)
                self.assertLessEqual(max(len(line) for line in lines), 120)
                self.assertRegex(text, r"\A[ -~\n]*\Z")
                for node in ast.walk(tree):
                    if isinstance(node, (ast.FunctionDef, ast.Lambda)):
                        self.assertLessEqual(node.end_lineno - node.lineno + 1, 40)

    def test_words(self):
        for name, text, tree in parsed_files():
            with self.subTest(file=name):
                for word in WORDS:
                    self.assertIsNone(re.search(r"\b{}\b".format(word), text), word)
                self.assertIsNone(re.search("dataclass|overload|contextmanager", text))

    def test_statements_and_expressions(self):
        for name, text, tree in parsed_files():
            with self.subTest(file=name):
                for node in ast.walk(tree):
                    self.assertIn(node.__class__.__name__, NODES, getattr(node, "lineno", None))
                    if isinstance(node, ast.Expr) and node != tree.body[0]:
                        self.assertIsInstance(node.value, ast.Call)
                    if isinstance(node, (ast.For, ast.While)):
                        self.assertEqual(node.orelse, [])
                    if isinstance(node, ast.Assign):
                        self.assertEqual(len(node.targets), 1)
                    if isinstance(node, ast.Constant):
                        self.assertIn(node.value.__class__, (int, str, bool, None.__class__))
                    if isinstance(node, ast.ListComp):
                        self.assertEqual(len(node.generators), 1)
                        self.assertLessEqual(len(node.generators[0].ifs), 1)
                    if isinstance(node, (ast.FunctionDef, ast.ClassDef)):
                        self.assertEqual(node.decorator_list, [])

    def test_the_top_of_a_file(self):
        for name, text, tree in parsed_files():
            with self.subTest(file=name):
                self.assertIsNotNone(ast.get_docstring(tree))
                kinds = [node.__class__ for node in tree.body[1:]]
                self.assertLessEqual(set(kinds), {ast.ImportFrom, ast.Assign, ast.FunctionDef, ast.ClassDef})
                imports = kinds.count(ast.ImportFrom)
                self.assertNotIn(ast.ImportFrom, kinds[imports:])
                self.assertEqual(len(top_names(tree)), len(set(top_names(tree))))

    def test_imports_are_the_packages_own_and_go_round_in_no_circle(self):
        drawn = {}
        for name, text, tree in parsed_files():
            with self.subTest(file=name):
                rows = [node for node in tree.body if isinstance(node, ast.ImportFrom)]
                drawn[name] = [row.module.replace("sampledgrades.", "", 1) + ".py" for row in rows]
                for row in rows:
                    self.assertEqual(row.level, 0)
                    self.assertTrue(row.module.startswith("sampledgrades."))
                    source = ast.parse(read(row.module.split(".")[1] + ".py"))
                    defined = top_names(source)
                    imported = [a.name for n in source.body if isinstance(n, ast.ImportFrom) for a in n.names]
                    for alias in row.names:
                        self.assertIn(alias.name, defined)
                        self.assertNotIn(alias.name, imported)
        self.assertEqual(drawn["__init__.py"], [])
        while drawn:
            free = [name for name in drawn if not any(other in drawn for other in drawn[name])]
            self.assertTrue(free, drawn)
            drawn = {name: others for name, others in drawn.items() if name not in free}

    def test_names(self):
        for name, text, tree in parsed_files():
            with self.subTest(file=name):
                top = top_names(tree)
                imports = [a.name for n in tree.body if isinstance(n, ast.ImportFrom) for a in n.names]
                known = set(dir(__builtins__) if not isinstance(__builtins__, dict) else __builtins__)
                bound = bound_names(tree)
                for word in bound:
                    if word != "__init__":
                        self.assertRegex(word, r"\A[A-Za-z][A-Za-z0-9_]*\Z")
                    self.assertNotIn(word, known)
                    self.assertNotIn(word, imports)
                for node in ast.walk(tree):
                    if isinstance(node, ast.Name) and isinstance(node.ctx, ast.Load):
                        self.assertIn(node.id, BUILT_IN + top + bound)

    def test_methods_of_pythons_own_values(self):
        for name, text, tree in parsed_files():
            with self.subTest(file=name):
                own = [n.name for n in ast.walk(tree) if isinstance(n, ast.FunctionDef)]
                for node in ast.walk(tree):
                    if isinstance(node, ast.Call) and isinstance(node.func, ast.Attribute):
                        self.assertIn(node.func.attr, METHODS + own)

    def test_a_power_has_a_written_exponent(self):
        for name, text, tree in parsed_files():
            with self.subTest(file=name):
                for node in ast.walk(tree):
                    if isinstance(node, (ast.BinOp, ast.AugAssign)) and isinstance(node.op, ast.Pow):
                        exponent = node.right if isinstance(node, ast.BinOp) else node.value
                        self.assertIsInstance(exponent, ast.Constant)
                        self.assertIn(exponent.value, range(65))

    def test_is_stands_beside_none_true_and_false_alone(self):
        for name, text, tree in parsed_files():
            with self.subTest(file=name):
                for node in ast.walk(tree):
                    if isinstance(node, ast.Compare):
                        for sign, right in zip(node.ops, node.comparators):
                            if isinstance(sign, (ast.Is, ast.IsNot)):
                                self.assertIsInstance(right, ast.Constant)
                                self.assertIn(right.value, (None, True, False))

    def test_keywords(self):
        wanted = {"sorted": ["key", "reverse"], "min": ["key", "default"], "max": ["key", "default"],
                  "sum": ["start"], "enumerate": ["start"], "zip": ["strict"]}
        for name, text, tree in parsed_files():
            with self.subTest(file=name):
                own = [node.name for node in tree.body if isinstance(node, (ast.FunctionDef, ast.ClassDef))]
                for node in ast.walk(tree):
                    if isinstance(node, ast.Call) and isinstance(node.func, ast.Name) and node.func.id not in own:
                        for keyword in node.keywords:
                            self.assertIn(keyword.arg, wanted.get(node.func.id, []))

    def test_walks_are_not_kept_and_sets_stand_where_they_may(self):
        around = ("list", "tuple", "dict", "sorted", "sum", "any", "all", "enumerate", "zip", "min", "max")
        for name, text, tree in parsed_files():
            above = {child: node for node in ast.walk(tree) for child in ast.iter_child_nodes(node)}
            with self.subTest(file=name):
                for node in ast.walk(tree):
                    if not isinstance(node, ast.Call):
                        continue
                    called = getattr(node.func, "id", getattr(node.func, "attr", None))
                    parent = above[node]
                    within = getattr(getattr(parent, "func", None), "id", None)
                    if called in ("zip", "enumerate", "reversed", "range", "items", "keys", "values"):
                        walked = isinstance(parent, (ast.For, ast.comprehension)) and parent.iter is node
                        self.assertTrue(walked or within in around, node.lineno)
                    if called == "set":
                        self.assertTrue(isinstance(parent, ast.Compare) or within in ("sorted", "len"), node.lineno)

    def test_what_stands_at_a_files_top_is_only_read(self):
        for name, text, tree in parsed_files():
            above = {child: node for node in ast.walk(tree) for child in ast.iter_child_nodes(node)}
            kept = [node.targets[0].id for node in tree.body if isinstance(node, ast.Assign)
                    and isinstance(node.value, (ast.List, ast.Dict))]
            with self.subTest(file=name):
                for node in ast.walk(tree):
                    if isinstance(node, ast.Name) and node.id in kept and isinstance(node.ctx, ast.Load):
                        parent = above[node]
                        read = isinstance(parent, ast.Subscript) and isinstance(parent.ctx, ast.Load)
                        got = isinstance(parent, ast.Attribute) and parent.attr == "get"
                        self.assertTrue(read or got, node.lineno)
                    if isinstance(node, (ast.List, ast.Dict)) and above.get(above.get(node)) is tree:
                        for part in ast.walk(node):
                            self.assertTrue(part is node or not isinstance(part, (ast.List, ast.Dict)))


if __name__ == "__main__":
    unittest.main()
