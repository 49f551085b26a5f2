"""The rules of the language that a look at the files can tell."""

import ast
import os
import pathlib
import re
import unittest
import warnings

FOLDER = os.path.join(os.path.dirname(os.path.dirname(os.path.abspath(__file__))), "lanebanks")
BUILTINS = set("""len range enumerate zip min max sum abs sorted reversed int str bool list tuple dict set isinstance
ord repr any all divmod iter next classmethod staticmethod property Exception ValueError TypeError KeyError IndexError
LookupError RuntimeError""".split())
METHODS = set("""append clear copy count endswith extend find get index insert isalnum isalpha isdigit islower isspace
isupper items join keys ljust lower lstrip partition pop remove replace reverse rfind rjust rpartition rsplit rstrip
setdefault split splitlines startswith strip update upper values zfill bit_length isascii""".split())
CHANGING = {"append", "clear", "extend", "insert", "pop", "remove", "reverse", "setdefault", "update", "add", "sort"}
BARRED = set("""type typing typing_extensions enum Enum IntEnum StrEnum Flag IntFlag Generic Protocol ABC ABCMeta
namedtuple NamedTuple TypedDict TYPE_CHECKING abstractmethod""".split())
STATEMENTS = (ast.Assign, ast.AugAssign, ast.Try, ast.If, ast.While, ast.For, ast.Return, ast.Break, ast.Continue, ast.Pass,
              ast.Raise, ast.Assert, ast.Delete, ast.Expr, ast.FunctionDef, ast.ClassDef, ast.ImportFrom, ast.With)
CHANGES = ("__init__", "__call__", "__setitem__", "__enter__", "__exit__")
NAMES = sorted(name for name in os.listdir(FOLDER) if name != "__pycache__")
TEXTS = {name: pathlib.Path(FOLDER, name).read_text(encoding="utf-8") for name in NAMES}
TREES = {name: ast.parse(text) for name, text in TEXTS.items()}
FUNCTIONS = [(name, node) for name in NAMES for node in ast.walk(TREES[name]) if isinstance(node, ast.FunctionDef)]
CLASSES = [node for tree in TREES.values() for node in tree.body if isinstance(node, ast.ClassDef)]


def tops(name):
    """The names that a file binds at module level, imports left out."""
    found = set()
    for node in TREES[name].body:
        if isinstance(node, (ast.FunctionDef, ast.ClassDef)):
            found.add(node.name)
        elif isinstance(node, ast.Assign):
            found.add(node.targets[0].id)
    return found


def imports(name):
    """The pairs of a module and a name that a file imports."""
    return [(node.module, part.name) for node in TREES[name].body if isinstance(node, ast.ImportFrom)
            for part in node.names]


def marks_of(function):
    """The decorators of a function: their names, of a setter that of the attribute."""
    return [mark.attr if isinstance(mark, ast.Attribute) else mark.id for mark in function.decorator_list]


def generators():
    """The names of the functions and methods with a yield of their own."""
    return {node.name for _, node in FUNCTIONS if any(isinstance(part, (ast.Yield, ast.YieldFrom))
                                                      for part in ast.walk(node))}


class FilesTest(unittest.TestCase):
    def test_files(self):
        for name in NAMES:
            self.assertRegex(name, r"^(__init__|[a-z][a-z0-9_]*)\.py$")

    def test_sizes_and_characters(self):
        for name, text in TEXTS.items():
            lines = text.split("\n")
            self.assertLessEqual(len(lines) - 1, 399, name)
            self.assertTrue(all(len(line) <= 120 for line in lines), name)
            self.assertTrue(all(" " <= letter <= "~" or letter == "\n" for letter in text), name)
        for name, node in FUNCTIONS:
            self.assertLessEqual(node.end_lineno - node.lineno + 1, 40, (name, node.name))

    def test_no_warnings_and_barred_words(self):
        for name, text in TEXTS.items():
            with warnings.catch_warnings():
                warnings.simplefilter("error")
                compile(text, name, "exec")
            self.assertEqual(BARRED & set(re.findall(r"\w+", text)), set(), name)
            self.assertNotRegex(text, "dataclass|overload|contextmanager|_wall|Meta|metaclass|global |nonlocal ")
            self.assertNotIn("%", "".join(node.value for node in ast.walk(TREES[name])
                                          if isinstance(node, ast.Constant) and isinstance(node.value, str)))

    def test_docstrings(self):
        for name in NAMES:
            self.assertTrue(ast.get_docstring(TREES[name]), name)

    def test_imports(self):
        edges = {}
        for name in NAMES:
            edges[name] = set()
            for module, part in imports(name):
                if module in ("math",):
                    self.assertIn(part, ("gcd", "lcm", "isqrt"))
                    continue
                self.assertTrue(module.startswith("lanebanks."))
                file = module.split(".")[1] + ".py"
                self.assertIn(part, tops(file), (name, part))
                self.assertGreaterEqual(TEXTS[name].count(part), 2, (name, part))
                edges[name].add(file)
            bound = list(tops(name)) + [part for _, part in imports(name)]
            self.assertEqual(len(bound), len(set(bound)))
        while edges:
            last = [name for name in edges if not edges[name]]
            self.assertTrue(last, "files import each other")
            edges = {name: ends - set(last) for name, ends in edges.items() if name not in last}


class NamesTest(unittest.TestCase):
    def test_statements(self):
        for name, tree in TREES.items():
            for node in ast.walk(tree):
                if isinstance(node, ast.stmt):
                    self.assertIsInstance(node, STATEMENTS, name)
                self.assertNotIsInstance(node, ast.Div, name)
                self.assertFalse(isinstance(node, ast.Constant) and isinstance(node.value, float), name)

    def test_builtins(self):
        known = set(dir(__builtins__)) if not isinstance(__builtins__, dict) else set(__builtins__)
        barred = known | {"members", "ascending"} - generators()
        for name, tree in TREES.items():
            for node in ast.walk(tree):
                if isinstance(node, ast.Name):
                    if isinstance(node.ctx, ast.Store):
                        self.assertNotIn(node.id, known, name)
                    elif node.id in known:
                        self.assertIn(node.id, BUILTINS, name)
                if isinstance(node, (ast.FunctionDef, ast.ClassDef)):
                    self.assertNotIn(node.name, barred, name)
                if isinstance(node, ast.arg):
                    self.assertNotIn(node.arg, known, name)
                    self.assertIsNone(node.annotation)

    def test_no_name_hides_a_class_or_an_import(self):
        for name, function in FUNCTIONS:
            barred = {part for _, part in imports(name)} | {node.name for node in CLASSES} & tops(name)
            parts = list(ast.walk(function))
            local = {node.id for node in parts if isinstance(node, ast.Name) and isinstance(node.ctx, ast.Store)}
            local |= {node.arg for node in parts if isinstance(node, ast.arg)}
            self.assertEqual(local & barred, set(), (name, function.name))

    def test_methods(self):
        own = {node.name for _, node in FUNCTIONS}
        for name, tree in TREES.items():
            for node in ast.walk(tree):
                if isinstance(node, ast.Call) and isinstance(node.func, ast.Attribute):
                    self.assertIn(node.func.attr, own | METHODS, name)

    def test_decorators_and_stars(self):
        for node in CLASSES:
            self.assertEqual(node.decorator_list, [])
            for method in [part for part in node.body if isinstance(part, ast.FunctionDef)]:
                self.assertIn(marks_of(method), ([], ["property"], ["setter"], ["staticmethod"], ["classmethod"]))
                if method.args.vararg or method.args.kwarg:
                    self.assertTrue(method.args.args, method.name)

    def test_one_pass_functions_get_lists(self):
        made = generators()
        for name, tree in TREES.items():
            for node in ast.walk(tree):
                self.assertNotIsInstance(node, ast.GeneratorExp, name)
                if isinstance(node, ast.Call) and isinstance(node.func, ast.Name) and node.func.id in made:
                    self.assertIn(name, ("sets.py", "listing.py", "seen.py"))

    def test_kept_sums_are_by_whole_numbers(self):
        for name, tree in TREES.items():
            for node in ast.walk(tree):
                if isinstance(node, ast.AugAssign):
                    self.assertTrue(isinstance(node.target, ast.Name) and isinstance(node.value, ast.Constant), name)


def is_plain_number(value):
    """Whether an expression plainly gives a number or a string."""
    if isinstance(value, ast.Call):
        return isinstance(value.func, ast.Name) and value.func.id in ("len", "int", "ord", "str", "repr")
    return isinstance(value, ast.Constant)


def are_plain_numbers(value):
    """Whether an expression plainly gives several numbers or strings."""
    if isinstance(value, ast.Call) and isinstance(value.func, ast.Name) and value.func.id == "set":
        return are_plain_numbers(value.args[0])
    return isinstance(value, ast.ListComp) and is_plain_number(value.elt)


def called(name):
    """The calls by a bare name in a file, with this name."""
    for node in ast.walk(TREES[name]):
        if isinstance(node, ast.Call) and isinstance(node.func, ast.Name):
            yield node.func.id, node


class PlainTest(unittest.TestCase):
    def test_ordered_values_are_plain(self):
        # A class has an order, so what is ordered is plainly numbers.
        for name in NAMES:
            for word, node in called(name):
                if word in ("sorted", "min", "max"):
                    one = len(node.args) == 1
                    self.assertTrue(are_plain_numbers(node.args[0]) if one else any(map(is_plain_number, node.args)), name)

    def test_ranges_are_gone_over_at_once(self):
        for name, tree in TREES.items():
            parents = {child: node for node in ast.walk(tree) for child in ast.iter_child_nodes(node)}
            for word, node in called(name):
                if word in ("range", "zip", "enumerate"):
                    above = parents[node]
                    if isinstance(above, ast.Call):
                        self.assertIn(above.func.id, ("list", "tuple", "enumerate", "zip"), name)
                    else:
                        self.assertIsInstance(above, (ast.For, ast.comprehension, ast.Assign), name)

    def test_texts_are_plain(self):
        for name, function in FUNCTIONS:
            if function.name in ("__str__", "__repr__"):
                value = function.body[-1].value
                joined = isinstance(value, ast.Call) and isinstance(value.func, ast.Attribute) and value.func.attr == "join"
                self.assertTrue(joined or isinstance(value, (ast.JoinedStr, ast.Constant)), name)

    def test_properties_and_methods_are_no_attributes(self):
        methods = {part.name: part for node in CLASSES for part in node.body if isinstance(part, ast.FunctionDef)}
        for name, tree in TREES.items():
            for node in ast.walk(tree):
                if isinstance(node, ast.Attribute) and isinstance(node.ctx, ast.Store):
                    # A Found keeps its rule by this name, and a memory has a property of this name.
                    self.assertTrue(node.attr not in methods or (name, node.attr) == ("seen.py", "rule"), node.attr)

    def test_ends_of_blocks_are_plain(self):
        for name, function in FUNCTIONS:
            ends = function.body if function.name == "__exit__" else []
            for node in ast.walk(function):
                ends = ends + (node.finalbody if isinstance(node, ast.Try) else [])
            for node in ends:
                self.assertIsInstance(node, ast.Assign, (name, function.name))
                self.assertTrue(all(isinstance(part, (ast.Name, ast.Attribute)) for part in node.targets + [node.value]))


def is_made(value):
    """Whether an expression surely creates a list, a dict or a set: what a sign gives may be another thing."""
    if isinstance(value, ast.Call):
        return isinstance(value.func, ast.Name) and value.func.id in ("list", "dict", "set", "sorted")
    return isinstance(value, (ast.List, ast.Dict, ast.ListComp, ast.DictComp, ast.Set))


def changed_names(function):
    """The names of what a function changes, None for what has no plain name."""
    found = set()

    def root(node):
        while isinstance(node, (ast.Subscript, ast.Call, ast.Attribute)):
            if isinstance(node, ast.Attribute) and not (node.attr in CHANGING):
                return None
            node = node.func if isinstance(node, ast.Call) else node.value
        return node.id if isinstance(node, ast.Name) else None

    for node in ast.walk(function):
        if isinstance(node, (ast.Subscript, ast.Attribute)) and not isinstance(node.ctx, ast.Load):
            found.add(root(node.value) if isinstance(node, ast.Subscript) else None)
        if isinstance(node, ast.Call) and isinstance(node.func, ast.Attribute) and node.func.attr in CHANGING:
            found.add(root(node.func.value))
    return found


class OperatorsTest(unittest.TestCase):
    def test_operators_change_nothing(self):
        table = {}
        for _, node in FUNCTIONS:
            table.setdefault(node.name, []).append(node)
        inits = {node.name: part for node in CLASSES for part in node.body if getattr(part, "name", "") == "__init__"}
        waiting = [node for _, node in FUNCTIONS if marks_of(node) == ["property"]
                   or node.name.startswith("__") and node.name not in CHANGES]
        seen = []
        while waiting:
            function = waiting.pop()
            if function in seen:
                continue
            seen.append(function)
            given = {arg.arg for arg in ast.walk(function) if isinstance(arg, ast.arg)}
            values = {}
            for node in ast.walk(function):
                if isinstance(node, ast.Assign):
                    for target in node.targets:
                        if isinstance(target, ast.Name):
                            values.setdefault(target.id, []).append(node.value)
                if isinstance(node, ast.Call):
                    called = node.func.id if isinstance(node.func, ast.Name) else node.func.attr
                    if isinstance(node.func, ast.Name):
                        self.assertNotIn(called, given - {"cls"}, function.name)
                    waiting.extend([inits[called]] if called in inits else table.get(called, []))
            if function.name != "__init__":
                for name in changed_names(function):
                    self.assertIn(name, values, function.name)
                    self.assertTrue(all(is_made(value) for value in values[name]), (function.name, name))
            self.assertFalse(any(isinstance(node, (ast.Yield, ast.YieldFrom)) for node in ast.walk(function)))
        self.assertGreater(len(seen), 40)


if __name__ == "__main__":
    unittest.main()
