"""The rules of the Python subset that can be seen in the files of the package, the most of them."""

import ast
import builtins
import pathlib
import re
import unittest

PACKAGE = pathlib.Path(__file__).resolve().parent.parent / "fullorring"
LIBRARY = {
    "heapq": ("heappush", "heappop", "heapify", "heapreplace", "heappushpop"),
    "math": ("gcd", "lcm", "isqrt", "comb", "perm", "factorial"),
    "itertools": ("product", "combinations", "permutations"),
}
BUILTINS = """len range enumerate zip min max sum abs sorted reversed int str bool bytes list tuple dict set frozenset
isinstance ord repr any all divmod Exception ValueError TypeError KeyError IndexError LookupError ZeroDivisionError
ArithmeticError OverflowError RuntimeError NotImplementedError AttributeError StopIteration NotImplemented iter next map
super property staticmethod classmethod object""".split()
METHODS = """append clear copy count endswith extend find get index insert isalnum isalpha isdigit islower isspace isupper
items join keys ljust lower lstrip partition pop remove replace reverse rfind rjust rpartition rsplit rstrip setdefault
split splitlines startswith strip update upper values zfill bit_length add discard sort""".split()
BARRED_WORDS = """type typing typing_extensions enum Enum IntEnum StrEnum Flag IntFlag Generic Protocol ABC ABCMeta
namedtuple NamedTuple TypedDict TYPE_CHECKING abstractmethod""".split()
BARRED_NAMES = """register mro elements open input law version_info with_traceback add_note attrgetter breakpoint compile
copyright credits delattr dir eval exec exit gc getattr globals hasattr help id importlib license locals methodcaller os
quit setattr type vars sys""".split()
BARRED_NODES = (
    ast.Global, ast.AsyncFunctionDef, ast.AsyncFor, ast.AsyncWith, ast.Await, ast.GeneratorExp, ast.Div, ast.Set,
    ast.Import, ast.MatMult,
)
AT_ONCE = "range enumerate zip reversed items keys values".split()
TAKE_AT_ONCE = "list tuple dict sorted sum any all enumerate zip min max len reversed".split()


def files():
    return sorted(PACKAGE.glob("*.py"))


def trees():
    found = []
    for path in files():
        tree = ast.parse(path.read_text())
        for node in ast.walk(tree):
            for child in ast.iter_child_nodes(node):
                child.parent = node
        found.append((path, tree))
    return found


def called(node):
    """The name of a function or method that is called, else None."""
    if not isinstance(node, ast.Call):
        return None
    return node.func.id if isinstance(node.func, ast.Name) else getattr(node.func, "attr", None)


def bound_names(tree):
    """The parameters and all names that are assigned in functions."""
    found = []
    for node in ast.walk(tree):
        if isinstance(node, ast.arg):
            found.append(node.arg)
        if isinstance(node, ast.Name) and isinstance(node.ctx, ast.Store):
            found.append(node.id)
    return found


class FilesTest(unittest.TestCase):

    def test_the_folder_holds_plain_files_alone(self):
        for path in PACKAGE.iterdir():
            if path.name != "__pycache__":
                self.assertRegex(path.name, r"\A[a-z_][a-z0-9_]*\.py\Z")

    def test_lines_and_signs(self):
        for path in files():
            text = path.read_text()
            self.assertTrue(all(sign == "\n" or " " <= sign <= "~" for sign in text), path)
            self.assertLessEqual(len(text.split("\n")), 399, path)
            self.assertLessEqual(max(len(line) for line in text.split("\n")), 120, path)

    def test_functions_are_short(self):
        for path, tree in trees():
            for node in ast.walk(tree):
                if isinstance(node, ast.FunctionDef):
                    self.assertLessEqual(node.end_lineno - node.lineno + 1, 40, (path, node.name))
                    self.assertEqual(node.decorator_list, [], (path, node.name))

    def test_barred_words(self):
        for path, tree in trees():
            docs = [ast.get_docstring(node, clean=False) for node in ast.walk(tree)
                    if isinstance(node, (ast.Module, ast.ClassDef, ast.FunctionDef))]
            strings = [node.value for node in ast.walk(tree)
                       if isinstance(node, ast.Constant) and isinstance(node.value, str) and node.value not in docs]
            words = [word for text in strings for word in re.findall(r"\w+", text)]
            names = [node.id for node in ast.walk(tree) if isinstance(node, ast.Name)]
            names += [node.attr for node in ast.walk(tree) if isinstance(node, ast.Attribute)]
            for word in words + names + bound_names(tree):
                self.assertNotIn(word, BARRED_WORDS, path)
            for word in names + bound_names(tree):
                self.assertNotIn(word, BARRED_NAMES, path)
            self.assertFalse(any("%" in text for text in strings), path)


class CodeTest(unittest.TestCase):

    def test_module_level(self):
        for path, tree in trees():
            for at, node in enumerate(tree.body):
                doc = at == 0 and isinstance(node, ast.Expr) and isinstance(node.value, ast.Constant)
                kinds = (ast.ImportFrom, ast.FunctionDef, ast.ClassDef, ast.Assign)
                self.assertTrue(doc or isinstance(node, kinds), (path, node.lineno))

    def test_imports_name_the_defining_file(self):
        defined = {}
        for path, tree in trees():
            defined["fullorring." + path.stem] = [
                name for node in tree.body for name in
                ([node.name] if hasattr(node, "name") else [getattr(one, "id", None) for one in
                                                            getattr(node, "targets", [])])
            ]
        for path, tree in trees():
            for node in tree.body:
                if isinstance(node, ast.ImportFrom):
                    self.assertEqual(node.level, 0)
                    for one in node.names:
                        self.assertIsNone(one.asname)
                        allowed = defined.get(node.module, LIBRARY.get(node.module, ()))
                        self.assertIn(one.name, allowed, path)

    def test_no_files_import_from_each_other(self):
        imports = {
            path.stem: [node.module.rpartition(".")[2] for node in tree.body
                        if isinstance(node, ast.ImportFrom) and node.module.startswith("fullorring.")]
            for path, tree in trees()
        }
        while imports:
            free = [name for name, others in imports.items() if not any(other in imports for other in others)]
            self.assertNotEqual(free, [], imports)
            imports = {name: others for name, others in imports.items() if name not in free}

    def test_barred_nodes(self):
        for path, tree in trees():
            for node in ast.walk(tree):
                self.assertNotIsInstance(node, BARRED_NODES, (path, getattr(node, "lineno", 0)))
                if isinstance(node, ast.Constant):
                    self.assertNotIsInstance(node.value, (float, complex), path)
                if isinstance(node, ast.Compare):
                    for sign, other in zip(node.ops, node.comparators):
                        if isinstance(sign, (ast.Is, ast.IsNot)):
                            self.assertTrue(isinstance(other, ast.Constant) and other.value in (None, True, False))

    def test_powers_and_tries(self):
        for path, tree in trees():
            for node in ast.walk(tree):
                if isinstance(node, ast.BinOp) and isinstance(node.op, ast.Pow):
                    self.assertIsInstance(node.right, ast.Constant, (path, node.lineno))
                if isinstance(node, ast.Try):
                    self.assertEqual(node.handlers, [], (path, node.lineno))
                    for line in node.finalbody:
                        self.assertIsInstance(line, ast.Assign, (path, line.lineno))
                        self.assertIsInstance(line.value, ast.Name, (path, line.lineno))

    def test_names(self):
        known = set(dir(builtins))
        for path, tree in trees():
            taken = {one.name for node in tree.body if isinstance(node, ast.ImportFrom) for one in node.names}
            taken |= {node.name for node in tree.body if isinstance(node, ast.ClassDef)}
            for name in bound_names(tree):
                self.assertNotIn(name, known, path)
                self.assertNotIn(name, taken, path)
            for node in tree.body:
                self.assertNotIn(getattr(node, "name", ""), known, path)
            for node in ast.walk(tree):
                if isinstance(node, ast.Name) and node.id in known:
                    self.assertIn(node.id, BUILTINS, (path, node.lineno))

    def test_methods(self):
        for path, tree in trees():
            own = {node.name for node in ast.walk(tree) if isinstance(node, ast.FunctionDef)}
            for node in ast.walk(tree):
                if isinstance(node, ast.Call) and isinstance(node.func, ast.Attribute):
                    self.assertIn(node.func.attr, METHODS + sorted(own), (path, node.lineno))

    def test_iterated_at_once(self):
        for path, tree in trees():
            for node in ast.walk(tree):
                if called(node) in AT_ONCE:
                    parent = node.parent
                    loop = isinstance(parent, (ast.For, ast.comprehension)) and parent.iter is node
                    taken = called(parent) in TAKE_AT_ONCE and parent.args[0] is node
                    self.assertTrue(loop or taken, (path, node.lineno))
                if called(node) == "set":
                    parent = node.parent
                    self.assertTrue(isinstance(parent, (ast.Compare, ast.Assign))
                                    or called(parent) in ("sorted", "len"), (path, node.lineno))

    def test_loops_leave_what_they_iterate_over(self):
        changing = ("append", "clear", "extend", "insert", "pop", "remove", "reverse", "setdefault", "update", "sort")
        for path, tree in trees():
            for loop in ast.walk(tree):
                if isinstance(loop, ast.For):
                    over = {node.id for node in ast.walk(loop.iter) if isinstance(node, ast.Name)}
                    for node in ast.walk(loop):
                        if called(node) in changing and isinstance(node.func, ast.Attribute):
                            self.assertNotIn(getattr(node.func.value, "id", None), over, (path, node.lineno))
                        if isinstance(node, ast.Subscript) and not isinstance(node.ctx, ast.Load):
                            self.assertNotIn(getattr(node.value, "id", None), over, (path, node.lineno))


if __name__ == "__main__":
    unittest.main()
