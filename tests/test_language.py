"""The rules of the package's code that a small check can see: sizes, imports, names, forms that are not used."""

import ast
import builtins
import os
import unittest

FOLDER = os.path.join(os.path.dirname(os.path.dirname(os.path.abspath(__file__))), "litdigits")

# A session of examples in the same process can leave an answer at the name _, which is no builtin.
ALL_BUILTINS = set(dir(builtins)) - {"_"}

BUILTINS = """
len range enumerate zip min max sum abs sorted reversed int str bool list tuple dict set isinstance ord repr any all
divmod pow iter next map super property staticmethod classmethod Exception ValueError TypeError KeyError IndexError
LookupError ZeroDivisionError ArithmeticError OverflowError RuntimeError NotImplementedError NotImplemented
""".split()

METHODS = """
append clear copy count endswith extend find get index insert isalnum isalpha isdigit islower isspace isupper items
join keys ljust lower lstrip partition pop remove replace reverse rfind rjust rpartition rsplit rstrip setdefault
split splitlines startswith strip update upper values zfill bit_length
removeprefix removesuffix rindex isascii isdecimal isnumeric isidentifier isprintable
""".split()

NEVER = """
register mro elements open input law version_info with_traceback add_note attrgetter breakpoint compile copyright
credits delattr dir eval exec exit gc globals help id importlib license locals methodcaller os quit vars typing enum
Enum dataclass namedtuple chr print float format_map
""".split()

LIBRARY = {
    "heapq": ["heappush", "heappop", "heapify", "heapreplace", "heappushpop"],
    "math": ["gcd", "lcm", "isqrt", "comb", "perm", "factorial"],
    "itertools": ["product", "combinations", "permutations", "chain", "accumulate", "pairwise", "islice", "zip_longest"],
    "collections": ["defaultdict", "deque"],
}

STATEMENTS = (
    ast.Assign, ast.AugAssign, ast.AnnAssign, ast.If, ast.While, ast.For, ast.Return, ast.Break, ast.Continue,
    ast.Pass, ast.Raise, ast.Assert, ast.Delete, ast.Try, ast.With, ast.Match, ast.Nonlocal, ast.Expr,
    ast.FunctionDef, ast.ClassDef, ast.ImportFrom,
)

DUNDERS = ["__init__", "__eq__", "__repr__", "__str__", "__len__"]


def files():
    return sorted(name for name in os.listdir(FOLDER) if name != "__pycache__")


def text_of(name):
    with open(os.path.join(FOLDER, name), encoding="utf-8") as file:
        return file.read()


def nodes_of(name, *kinds):
    return [node for node in ast.walk(ast.parse(text_of(name))) if isinstance(node, kinds)]


def bound_names(node):
    """The names that a node binds."""
    if isinstance(node, (ast.FunctionDef, ast.ClassDef)):
        return [node.name]
    if isinstance(node, ast.arg):
        return [node.arg]
    if isinstance(node, ast.Name) and isinstance(node.ctx, ast.Store):
        return [node.id]
    return []


class Language(unittest.TestCase):
    def test_files(self):
        self.assertIn("__init__.py", files())
        for name in files():
            self.assertRegex(name, r"^[a-z_]+\.py$")

    def test_sizes_and_characters(self):
        for name in files():
            text = text_of(name)
            self.assertTrue(text.endswith("\n"))
            self.assertLessEqual(len(text.splitlines()), 399, name)
            for line in text.splitlines():
                self.assertLessEqual(len(line), 120, line)
            self.assertTrue(all(" " <= sign <= "~" or sign == "\n" for sign in text), name)
            for node in nodes_of(name, ast.FunctionDef):
                self.assertLessEqual(node.end_lineno - node.lineno + 1, 40, node.name)

    def test_imports(self):
        for name in files():
            self.assertEqual(nodes_of(name, ast.Import), [])
            for node in nodes_of(name, ast.ImportFrom):
                names = [some.name for some in node.names]
                self.assertEqual(node.level, 0)
                if node.module in LIBRARY:
                    self.assertLessEqual(set(names), set(LIBRARY[node.module]))
                    continue
                package, module = node.module.split(".")
                self.assertEqual(package, "litdigits")
                defined = [some for part in ast.parse(text_of(module + ".py")).body for some in self.binds(part)]
                self.assertLessEqual(set(names), set(defined), name)

    def binds(self, part):
        if isinstance(part, ast.Assign):
            return [part.targets[0].id]
        return bound_names(part)

    def test_no_circle_of_imports(self):
        needs = {
            name[:-3]: {node.module.split(".")[-1] for node in nodes_of(name, ast.ImportFrom)} - set(LIBRARY)
            for name in files()
        }
        while needs:
            free = [name for name, others in needs.items() if not others & set(needs)]
            self.assertTrue(free, needs)
            for name in free:
                del needs[name]

    def test_module_level(self):
        for name in files():
            bound = []
            for index, part in enumerate(ast.parse(text_of(name)).body):
                kinds = (ast.ImportFrom, ast.FunctionDef, ast.ClassDef, ast.Assign)
                if index == 0:
                    self.assertIsInstance(part.value.value, str)
                    continue
                self.assertIsInstance(part, kinds)
                bound += [some.name for some in part.names] if isinstance(part, ast.ImportFrom) else self.binds(part)
                if isinstance(part, ast.Assign):
                    self.assertEqual(len(part.targets), 1)
                    ast.literal_eval(part.value)
            self.assertEqual(len(bound), len(set(bound)), name)

    def test_names(self):
        for name in files():
            for node in nodes_of(name, ast.FunctionDef, ast.ClassDef, ast.arg, ast.Name):
                for some in bound_names(node):
                    if some in DUNDERS and isinstance(node, ast.FunctionDef):
                        continue
                    self.assertNotIn(some, ALL_BUILTINS)
                    self.assertRegex(some, "^(_|_?[A-Za-z][A-Za-z0-9_]*)$")
            for node in nodes_of(name, ast.Name):
                self.assertNotIn(node.id, NEVER)
                if node.id in ALL_BUILTINS:
                    self.assertIn(node.id, BUILTINS)
                if isinstance(node.ctx, ast.Load):
                    self.assertNotEqual(node.id, "_")
            for node in nodes_of(name, ast.Attribute):
                self.assertNotIn(node.attr, NEVER)

    def test_no_name_shadows_one_of_its_file(self):
        for name in files():
            body = ast.parse(text_of(name)).body
            taken = {some.name for part in body if isinstance(part, ast.ImportFrom) for some in part.names}
            taken |= {part.name for part in body if isinstance(part, (ast.ClassDef, ast.FunctionDef))}
            for node in nodes_of(name, ast.arg, ast.Name):
                for some in bound_names(node):
                    self.assertNotIn(some, taken, name)

    def test_forms(self):
        for name in files():
            self.assertEqual(nodes_of(name, ast.Div, ast.Await), [])
            for node in nodes_of(name, ast.stmt):
                self.assertIsInstance(node, STATEMENTS)
            for node in nodes_of(name, ast.FunctionDef, ast.ClassDef):
                self.assertTrue(ast.get_docstring(node) or node.name in DUNDERS, node.name)
            for node in nodes_of(name, ast.Constant):
                self.assertNotIsInstance(node.value, float)
                self.assertNotIn("%", str(node.value))
            for node in nodes_of(name, ast.Compare):
                for sign, other in zip(node.ops, node.comparators):
                    if isinstance(sign, (ast.Is, ast.IsNot)):
                        self.assertIn(getattr(other, "value", 0), (None, True, False))

    def test_powers_have_literal_exponents(self):
        for name in files():
            for node in nodes_of(name, ast.BinOp):
                if isinstance(node.op, ast.Pow):
                    self.assertIn(getattr(node.right, "value", -1), range(65))

    def test_called_methods(self):
        own = {node.name for name in files() for node in nodes_of(name, ast.FunctionDef)}
        for name in files():
            for node in nodes_of(name, ast.Call):
                if isinstance(node.func, ast.Attribute):
                    self.assertIn(node.func.attr, [*METHODS, *own], name)

    def test_classes(self):
        for name in files():
            for node in nodes_of(name, ast.ClassDef):
                self.assertEqual(node.decorator_list, [])
                self.assertLessEqual(len(node.bases), 1)
                methods = [part for part in node.body if isinstance(part, ast.FunctionDef)]
                told = [part for part in node.body if isinstance(part, ast.Expr)]
                self.assertEqual(len(methods) + len(told), len(node.body))
                for method in methods:
                    self.assertIn([ast.unparse(some) for some in method.decorator_list], ([], ["property"]))
                    # No name is a method and an attribute of the class.
                    stored = [
                        some.attr for some in ast.walk(node)
                        if isinstance(some, ast.Attribute) and isinstance(some.ctx, ast.Store)
                    ]
                    self.assertNotIn(method.name, stored)

    def test_properties_change_nothing(self):
        for name in files():
            for node in nodes_of(name, ast.FunctionDef):
                if node.decorator_list or node.name in ("__eq__", "__len__"):
                    for some in ast.walk(node):
                        if isinstance(some, (ast.Attribute, ast.Subscript)):
                            self.assertIsInstance(some.ctx, ast.Load)

    def test_no_generator_expressions(self):
        # Where a class has __eq__, what any, all, min, max, sum and sorted take is a list.
        for name in files():
            self.assertEqual(nodes_of(name, ast.GeneratorExp, ast.Lambda), [])

    def test_caught_errors(self):
        defined = [node.name for node in nodes_of("errors.py", ast.ClassDef)]
        for name in files():
            for node in nodes_of(name, ast.ExceptHandler):
                self.assertIn(node.type.id, defined)
            for node in nodes_of(name, ast.Raise):
                self.assertIn(node.exc.func.id, defined)

    def test_what_is_iterated_at_once(self):
        first = ("list", "tuple", "dict", "sorted", "sum", "any", "all", "enumerate", "zip")
        for name in files():
            good = [node.iter for node in nodes_of(name, ast.For, ast.comprehension)]
            for node in nodes_of(name, ast.Call):
                if isinstance(node.func, ast.Name) and node.func.id in first:
                    good += node.args[:1]
                if isinstance(node.func, ast.Name) and node.func.id == "combinations":
                    good += node.args[:1]
            for node in nodes_of(name, ast.Call):
                if isinstance(node.func, ast.Name) and node.func.id in ("zip", "enumerate", "reversed", "range"):
                    self.assertIn(ast.dump(node), [ast.dump(some) for some in good], name)


if __name__ == "__main__":
    unittest.main()
