"""The interface of DOC.md, and the rules of LANGUAGE.md that a syntax tree can show."""

import ast
import builtins
import functools
import inspect
import pathlib
import re
import unittest

import foreheads
from foreheads import (alike, counts, crowds, desk, errors, ever, lines, rooms, runs, sayings, sayingtexts, talks, told,
                       ways)

PACKAGE = pathlib.Path(foreheads.__file__).parent
FILES = sorted(path for path in PACKAGE.iterdir() if path.name != "__pycache__")
TREES = {path: ast.parse(path.read_text(encoding="ascii")) for path in FILES if path.suffix == ".py"}

SIGNS = ("__and__", "__or__", "__xor__", "__sub__", "__invert__", "__eq__", "__str__")
ORDERS = ("__le__", "__lt__", "__ge__", "__gt__", "__contains__", "__bool__")

# Module, class, parameters, methods with their parameters.
CLASSES = (
    [(errors, name, ("word",), {}) for name in ("InvalidCrowds", "InvalidSaying", "InvalidTalk", "InvalidLine")]
    + [(errors, name, ("at",), {}) for name in ("InvalidText", "Untrue", "Refused", "NoRow")]
    + [(errors, "NoCrowd", ("crowd",), {}), (errors, "InvalidCommand", None, {}), (errors, "KnowError", None, {})]
    + [(crowds, "Crowds", ("starts", "periods", "rows"), {
        "nothing": ("cls",), "every": ("cls",), "of": ("cls", "crowds"), "at_least": ("cls", "kind", "number"),
        "leaving": ("cls", "kind", "rest", "period"), "least": ("self",), "size": ("self",),
        "marked_in": ("self", "number"), "beside": ("self", "kind"), **{name: None for name in SIGNS + ORDERS}})]
    + [(sayings, name, parameters, {sign: None for sign in SIGNS}) for name, parameters in (
        ("AtLeast", ("kind", "number")), ("Rest", ("kind", "rest", "period")), ("Fact", ("crowds",)),
        ("Sure", ("kind",)), ("Silent", ()), ("Knows", ("kind", "saying")), ("Common", ("saying",)),
        ("Saying", None))]
    + [(lines, "Line", ("people", "goes", "edges"), {
        "where": ("self", "saying"), "after": ("self", "talk"), "__eq__": None})]
    + [(talks, name, parameters, {"__eq__": None, "__str__": None}) for name, parameters in (
        ("Say", ("saying",)), ("Ask", ("saying",)), ("Hands", ("saying",)), ("Step", ()),
        ("If", ("saying", "rows", "others")), ("Times", ("many", "rows")), ("Row", None))]
    + [(talks, "Talk", ("rows",), {
        "read": ("cls", "text"), "without": ("self", "at"), "__call__": ("self", "crowd"),
        **{name: None for name in ("__len__", "__getitem__", "__add__", "__mul__", "__rmul__", "__eq__", "__str__")}})]
    + [(counts, "Count", None, {
        "by": ("self", "number"), "is_like": ("self", "other"), "greatest": ("self",), "__call__": ("self", "crowd")})]
    + [(told, "Told", None, {
        "stops": ("self", "at"), "comes": ("self", "at"), "where": ("self", "saying"), "wait": ("self",),
        "far": ("self", "saying"), "__eq__": None})]
    + [(rooms, "Room", ("crowd",), {
        "talk": ("self",), "line": ("self",), "do": ("self", "row"), "holds": ("self", "saying"), "undo": ("self",),
        "trial": ("self",), "within": ("self", "work"), "several": ("self", "rows"), "__len__": None, "__iadd__": None})]
    + [(desk, "Desk", (), {"say": ("self", "command"), "talk": ("self",), "__len__": None})]
)
FUNCTIONS = ((sayings, "everybody", ("saying",)), (sayings, "somebody", ("saying",)),
             (sayingtexts, "read_saying", ("text",)), (runs, "heard", ("talk", "crowd")),
             (runs, "holds", ("talk", "crowd", "saying")), (told, "told", ("talk",)),
             (alike, "alike", ("p", "q", "given")), (alike, "partings", ("p", "q", "given")),
             (alike, "least_parting", ("p", "q", "given")), (alike, "sure", ("talk", "saying", "given")),
             (alike, "least_breach", ("talk", "saying", "given")), (alike, "needless", ("talk", "given")),
             (alike, "reach", ("rows", "saying", "most", "given")),
             (alike, "plan", ("rows", "saying", "most", "crowd", "given")),
             (ways, "way", ("talk", "crowd", "saying")), (ways, "way_holds", ("talk", "crowd", "saying", "value")),
             (ever, "same", ("p", "q")), (ever, "parting_line", ("p", "q")), (ever, "neutral", ("talk",)),
             (ever, "reach_of", ("talk",)))

ALLOWED_BUILTINS = set("""len range enumerate zip min max sum abs sorted reversed int str bool bytes list tuple dict set
    isinstance ord repr any all divmod pow getattr hasattr setattr iter next map property staticmethod classmethod super
    Exception ValueError TypeError KeyError IndexError LookupError ZeroDivisionError ArithmeticError OverflowError
    RuntimeError NotImplementedError AttributeError StopIteration NotImplemented""".split())
ALLOWED_METHODS = set("""append clear copy count endswith extend find get index insert isalnum isalpha isdigit islower
    isspace isupper items join keys ljust lower lstrip partition pop remove replace reverse rfind rjust rpartition
    rsplit rstrip setdefault split splitlines startswith strip update upper values zfill bit_length
    translate maketrans""".split())
ALLOWED_DUNDERS = set("""__init__ __eq__ __repr__ __str__ __len__ __enter__ __exit__ __call__ __iter__ __lt__ __le__
    __gt__ __ge__ __add__ __sub__ __mul__ __rmul__ __and__ __or__ __xor__ __iadd__ __invert__ __bool__ __contains__
    __getitem__""".split())
ALLOWED_LIBRARY = {"math": ("gcd", "lcm", "isqrt", "comb", "perm", "factorial"),
                   "itertools": ("product", "combinations", "permutations")}
BARRED_NODES = (ast.Global, ast.AsyncFunctionDef, ast.Await, ast.Div, ast.AnnAssign, ast.MatMult, ast.SetComp)


@functools.cache
def nodes(*kinds):
    return [(path, node) for path, tree in TREES.items() for node in ast.walk(tree) if isinstance(node, kinds)]


@functools.cache
def own_methods():
    return {part.name for _, node in nodes(ast.ClassDef) for part in node.body if isinstance(part, ast.FunctionDef)}


class Interface(unittest.TestCase):
    def test_classes(self):
        for module, name, parameters, methods in CLASSES:
            kind = vars(module)[name]
            self.assertTrue(inspect.isclass(kind))
            self.assertEqual(kind.__module__, module.__name__)
            if parameters is not None:
                self.assertIn("__init__", vars(kind), name)
                self.assertEqual(tuple(inspect.signature(kind).parameters), parameters, name)
            for method, names in methods.items():
                self.assertIn(method, vars(kind), (name, method))
                if names is not None:
                    made = vars(kind)[method]
                    made = getattr(made, "__func__", getattr(made, "fget", made))
                    self.assertEqual(tuple(inspect.signature(made).parameters), names, (name, method))

    def test_functions(self):
        for module, name, parameters in FUNCTIONS:
            function = vars(module)[name]
            self.assertTrue(inspect.isfunction(function))
            self.assertEqual(function.__module__, module.__name__)
            self.assertEqual(tuple(inspect.signature(function).parameters), parameters)

    def test_package_is_empty(self):
        tree = TREES[PACKAGE / "__init__.py"]
        self.assertEqual(len(tree.body), 1)
        self.assertIsNotNone(ast.get_docstring(tree))


class Form(unittest.TestCase):
    def test_files(self):
        for path in FILES:
            self.assertEqual(path.suffix, ".py")
            text = path.read_text(encoding="ascii")
            self.assertTrue(all(char == "\n" or " " <= char <= "~" for char in text), path)
            self.assertLessEqual(len(text.splitlines()), 399, path)
            self.assertLessEqual(max(len(line) for line in text.splitlines()), 120, path)

    def test_functions_are_short(self):
        for path, node in nodes(ast.FunctionDef):
            self.assertLessEqual(node.end_lineno - node.lineno + 1, 40, (path, node.name))

    def test_nodes(self):
        self.assertEqual(nodes(*BARRED_NODES), [])
        for path, node in nodes(ast.Compare):
            for sign, part in zip(node.ops, node.comparators):
                if isinstance(sign, (ast.Is, ast.IsNot)):
                    self.assertIsInstance(part, ast.Constant, (path, node.lineno))

    def test_strings(self):
        for path, node in nodes(ast.Constant):
            if isinstance(node.value, str):
                self.assertNotIn("%", node.value, (path, node.lineno))
            self.assertNotIsInstance(node.value, (float, complex), (path, node.lineno))

    def test_annotations(self):
        for path, node in nodes(ast.FunctionDef):
            self.assertIsNone(node.returns, (path, node.name))
            for part in node.args.args + node.args.kwonlyargs:
                self.assertIsNone(part.annotation, (path, node.name))

    def test_module_level(self):
        for path, tree in TREES.items():
            for node in tree.body[1:]:
                self.assertIsInstance(node, (ast.ImportFrom, ast.FunctionDef, ast.ClassDef, ast.Assign), path)
            self.assertIsNotNone(ast.get_docstring(tree), path)

    def test_imports(self):
        self.assertEqual(nodes(ast.Import), [])
        for path, node in nodes(ast.ImportFrom):
            if node.module in ALLOWED_LIBRARY:
                self.assertTrue({part.name for part in node.names} <= set(ALLOWED_LIBRARY[node.module]), path)
                continue
            self.assertRegex(node.module, r"^foreheads\.[a-z]+$")
            source = TREES[PACKAGE / (node.module.split(".")[1] + ".py")]
            defined = {part.name for part in source.body if isinstance(part, (ast.ClassDef, ast.FunctionDef))}
            defined |= {target.id for part in source.body if isinstance(part, ast.Assign) for target in part.targets}
            for part in node.names:
                self.assertIn(part.name, defined, path)
                self.assertIsNone(part.asname, path)
        for path, tree in TREES.items():
            used = {node.id for node in ast.walk(tree) if isinstance(node, ast.Name)}
            for node in ast.walk(tree):
                if isinstance(node, ast.ImportFrom):
                    self.assertTrue({part.name for part in node.names} <= used, path)

    def test_builtins(self):
        for path, node in nodes(ast.Name):
            # Where examples are run, `_` comes to be a builtin.
            if node.id in vars(builtins) and node.id != "_":
                self.assertIn(node.id, ALLOWED_BUILTINS, (path, node.lineno))
                self.assertIsInstance(node.ctx, ast.Load, (path, node.lineno))
        for path, node in nodes(ast.arg):
            self.assertNotIn(node.arg, vars(builtins), (path, node.lineno))

    def test_methods(self):
        for path, node in nodes(ast.Call):
            if isinstance(node.func, ast.Attribute):
                self.assertIn(node.func.attr, ALLOWED_METHODS | own_methods(), (path, node.lineno))
        for name in own_methods():
            if name.startswith("__"):
                self.assertIn(name, ALLOWED_DUNDERS)

    def test_names_of_imports_and_classes_mean_nothing_else(self):
        for path, tree in TREES.items():
            names = {node.name for node in tree.body if isinstance(node, ast.ClassDef)}
            names |= {part.name for node in tree.body if isinstance(node, ast.ImportFrom) for part in node.names}
            bound = {node.id for node in ast.walk(tree) if isinstance(node, ast.Name) and isinstance(node.ctx, ast.Store)}
            bound |= {node.arg for node in ast.walk(tree) if isinstance(node, ast.arg)}
            self.assertEqual(names & bound, set(), path)

    def test_names_of_properties_and_class_methods_mean_nothing_else(self):
        made = nodes(ast.FunctionDef)
        special = {node.name for _, node in made for part in node.decorator_list}
        plain = [node.name for _, node in made if not node.decorator_list]
        self.assertEqual(special & set(plain), set())
        for path, node in nodes(ast.Attribute):
            if isinstance(node.ctx, ast.Store):
                self.assertNotIn(node.attr, special, (path, node.lineno))

    def test_no_method_is_an_attribute_too(self):
        stored = {node.attr for _, node in nodes(ast.Attribute) if isinstance(node.ctx, ast.Store)}
        self.assertEqual(stored & own_methods(), set())

    def is_plainly_a_number(self, node):
        if isinstance(node, ast.BinOp):
            return self.is_plainly_a_number(node.left) and self.is_plainly_a_number(node.right)
        if isinstance(node, ast.Call):
            return node.func.id in ("int", "len")
        return isinstance(node, ast.Constant) and isinstance(node.value, int)

    def test_what_is_compared_is_plainly_numbers(self):
        # Sets of crowds have an order: of what takes the least or the greatest, one part must plainly be a number.
        for path, node in nodes(ast.Call):
            if isinstance(node.func, ast.Name) and node.func.id in ("min", "max"):
                parts = [node.args[0].elt] if isinstance(node.args[0], ast.ListComp) else node.args
                self.assertTrue(any(self.is_plainly_a_number(part) for part in parts), (path, node.lineno))
            if isinstance(node.func, ast.Name) and node.func.id == "sorted":
                self.assertEqual(node.args[0].func.id, "set", (path, node.lineno))

    def test_all_attributes_that_are_read_are_assigned(self):
        assigned = {node.attr for _, node in nodes(ast.Attribute) if isinstance(node.ctx, ast.Store)}
        assigned |= {target.id for _, node in nodes(ast.ClassDef) for part in node.body if isinstance(part, ast.Assign)
                     for target in part.targets}
        for path, node in nodes(ast.Attribute):
            if node.attr not in ALLOWED_METHODS | own_methods():
                self.assertIn(node.attr, assigned, (path, node.lineno))

    def test_each_function_and_method_is_used(self):
        texts = [path.read_text(encoding="ascii") for path in FILES]
        listed = {method for _, _, _, methods in CLASSES for method in methods} | {name for _, name, _ in FUNCTIONS}
        for path, node in nodes(ast.FunctionDef):
            if not node.name.startswith("__") and node.name not in listed:
                found = sum(len(re.findall(rf"\b{node.name}\(", text)) for text in texts)
                self.assertGreater(found, 1, (path, node.name))

    def test_what_is_called_takes_what_is_passed(self):
        # Methods of one name take as many arguments in all classes, so that it is plain what each call must pass.
        takes = {}
        for _, node in nodes(ast.ClassDef):
            for part in node.body:
                if isinstance(part, ast.FunctionDef) and not part.name.startswith("__"):
                    takes.setdefault(part.name, set()).add(len(part.args.args))
        self.assertEqual({name: many for name, many in takes.items() if len(many) > 1}, {})

    def test_stars_in_calls(self):
        for path, node in nodes(ast.Call):
            for part in node.args:
                if isinstance(part, ast.Starred):
                    self.assertIsInstance(part.value, (ast.Name, ast.Attribute), (path, node.lineno))

    def test_what_is_caught(self):
        for path, node in nodes(ast.ExceptHandler):
            self.assertIn(node.type.id, vars(errors), (path, node.lineno))

    def test_classes_with_an_index_are_not_iterated(self):
        for path, node in nodes(ast.ClassDef):
            methods = {part.name: part for part in node.body if isinstance(part, ast.FunctionDef)}
            if "__getitem__" in methods:
                self.assertIsInstance(methods["__iter__"].body[0], ast.Raise, (path, node.name))

    def test_nothing_is_changed_in_place(self):
        # Where a class has an in-place sign, what an operator runs may not use one at all.
        for path, node in nodes(ast.AugAssign):
            self.fail((path, node.lineno))

    def test_decorators(self):
        for path, node in nodes(ast.FunctionDef, ast.ClassDef):
            for part in node.decorator_list:
                self.assertIsInstance(part, ast.Name, (path, node.name))
                self.assertIn(part.id, ("property", "staticmethod", "classmethod"))
                self.assertIsInstance(node, ast.FunctionDef)


if __name__ == "__main__":
    unittest.main()
