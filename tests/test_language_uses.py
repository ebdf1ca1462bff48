"""More rules of the program's language: how names, calls, walks and errors are used; each test names its rules."""
import ast
import builtins
import pathlib
import unittest

PACKAGE = pathlib.Path(__file__).resolve().parent.parent / "frameland"
OWN_METHODS = set(
    "append clear copy count endswith extend find get index insert isalnum isalpha isdigit islower isspace isupper "
    "items join keys ljust lower lstrip partition pop remove replace reverse rfind rjust rpartition rsplit rstrip "
    "setdefault split splitlines startswith strip update upper values zfill bit_length".split()
)
VALUE_NAMES = set("count index title find get join lower upper split strip copy add".split())
WALKED = {"zip", "enumerate", "reversed", "range"}
WALKED_METHODS = {"items", "keys", "values"}
WALKERS = {"list", "tuple", "dict", "sorted", "sum", "any", "all", "enumerate", "zip", "min", "max"}
CHANGES = {"append", "clear", "extend", "insert", "pop", "remove", "reverse", "setdefault", "update"}
NOT_NAMES = set(
    "attrgetter breakpoint builtins compile copyright credits delattr dir eval exec exit gc getattr globals hasattr "
    "help id importlib license locals methodcaller os quit setattr super type vars sys".split()
)
NOWHERE = {"register", "mro", "elements", "open", "input", "version_info", "with_traceback", "add_note", "format",
           "format_map"}
KINDS = (str, int, list, dict, set, frozenset, bytes, tuple, bool)
PYTHONS = {name for kind in KINDS for name in dir(kind) if not name.startswith("__")}


def is_call_of(node, names):
    return isinstance(node, ast.Call) and isinstance(node.func, ast.Name) and node.func.id in names


def is_walked_once(node):
    if is_call_of(node, WALKED):
        return True
    return isinstance(node, ast.Call) and isinstance(node.func, ast.Attribute) and node.func.attr in WALKED_METHODS


def places_for_walks(tree):
    """All that stands where a thing may be walked on the spot."""
    for node in ast.walk(tree):
        if isinstance(node, (ast.For, ast.comprehension)):
            yield node.iter
        elif is_call_of(node, WALKERS) and node.args:
            yield from (node.args if node.func.id == "zip" else node.args[:1])


def local_names(function):
    names = [arg.arg for arg in function.args.args]
    for node in ast.walk(function):
        if isinstance(node, ast.Name) and isinstance(node.ctx, ast.Store):
            names.append(node.id)
    return names


def drawn_from(tree):
    return {node.module.partition(".")[2] for node in tree.body if isinstance(node, ast.ImportFrom)}


class UsesTest(unittest.TestCase):
    def setUp(self):
        self.trees = {path.stem: ast.parse(path.read_text()) for path in sorted(PACKAGE.glob("*.py"))}
        self.methods, self.values, self.errors = set(), set(), set()
        for stem, node in self.nodes(ast.ClassDef):
            self.methods.update(part.name for part in node.body if isinstance(part, ast.FunctionDef))
            if stem == "errors":
                self.errors.add(node.name)
        for stem, node in self.nodes(ast.Attribute):
            if isinstance(node.ctx, ast.Store):
                self.values.add(node.attr)

    def nodes(self, kind):
        for stem, tree in self.trees.items():
            for node in ast.walk(tree):
                if isinstance(node, kind):
                    yield f"{stem}:{node.lineno}" if kind is not ast.ClassDef else stem, node

    def test_the_top_of_a_module(self):  # L3, L15
        for stem, tree in self.trees.items():
            for place, node in enumerate(tree.body):
                if isinstance(node, ast.Expr):
                    self.assertTrue(place == 0 and isinstance(node.value.value, str), stem)
                elif isinstance(node, ast.Assign):
                    self.check_plain(node.value, stem)
                else:
                    self.assertIsInstance(node, (ast.ImportFrom, ast.FunctionDef, ast.ClassDef), stem)

    def check_plain(self, node, stem):
        for part in ast.walk(node):
            plain = (ast.Constant, ast.Tuple, ast.List, ast.Dict, ast.Name, ast.Load)
            self.assertIsInstance(part, plain, stem)

    def test_classes(self):  # L5
        for stem, node in self.nodes(ast.ClassDef):
            self.assertLessEqual(len(node.bases), 1, stem)
            for part in node.body:
                self.assertIsInstance(part, (ast.FunctionDef, ast.Pass), stem)

    def test_locals(self):  # L15
        for stem, tree in self.trees.items():
            taken = {node.name for node in tree.body if isinstance(node, ast.ClassDef)}
            for node in tree.body:
                if isinstance(node, ast.ImportFrom):
                    taken.update(name.name for name in node.names)
            for node in ast.walk(tree):
                if isinstance(node, ast.FunctionDef):
                    for name in local_names(node):
                        self.assertNotIn(name, taken, stem)
                        self.assertFalse(hasattr(builtins, name), f"{stem}: {name}")

    def test_one_plain_target(self):  # L6
        for where, node in self.nodes(ast.Assign):
            self.assertNotIsInstance(node.targets[0], (ast.Tuple, ast.List), where)

    def test_files_do_not_draw_from_one_another(self):  # L16
        seen = {}

        def reached(stem):
            if stem not in seen:
                seen[stem] = set()
                below = drawn_from(self.trees[stem])
                seen[stem] = below.union(*[reached(other) for other in below])
            return seen[stem]

        for stem in self.trees:
            self.assertNotIn(stem, reached(stem))

    def test_words_that_are_not_used(self):  # L17
        for where, node in self.nodes((ast.Name, ast.Attribute)):
            name = node.id if isinstance(node, ast.Name) else node.attr
            self.assertNotIn(name, NOWHERE, where)
            if isinstance(node, ast.Name):
                self.assertNotIn(name, NOT_NAMES, where)

    def test_methods_and_values(self):  # L18, L25, L26
        free = PYTHONS - OWN_METHODS - {"add", "discard"}
        self.assertEqual(self.methods & free, set())
        self.assertEqual(self.values & (PYTHONS - VALUE_NAMES), set())
        called = set()
        for where, node in self.nodes(ast.Call):
            if isinstance(node.func, ast.Attribute):
                called.add(node.func)
                self.assertIn(node.func.attr, self.methods | OWN_METHODS, where)
        for where, node in self.nodes(ast.Attribute):
            if node not in called:
                self.assertIn(node.attr, self.values, where)

    def test_values_are_given_through_local_names(self):  # L18
        for where, node in self.nodes((ast.Attribute, ast.Subscript)):
            if isinstance(node.ctx, ast.Store):
                root = node.value
                while isinstance(root, (ast.Attribute, ast.Subscript)):
                    root = root.value
                self.assertIsInstance(root, ast.Name, where)
                self.assertTrue(root.id.islower(), where)

    def test_errors(self):  # L19
        allowed = self.errors | {"KeyError", "ZeroDivisionError", "StopIteration"}
        for where, node in self.nodes(ast.Try):
            self.assertEqual(node.finalbody, [], where)
            for handler in node.handlers:
                self.assertIsInstance(handler.type, ast.Name, where)
                self.assertIn(handler.type.id, allowed, where)
        for where, node in self.nodes(ast.Raise):
            self.assertIsInstance(node.exc, ast.Call, where)
            self.assertIn(node.exc.func.id, self.errors, where)

    def test_is(self):  # L20
        for where, node in self.nodes(ast.Compare):
            for operator, side in zip(node.ops, node.comparators):
                if isinstance(operator, (ast.Is, ast.IsNot)):
                    self.assertIsInstance(side, ast.Constant, where)
                    self.assertTrue(side.value is None or isinstance(side.value, bool), where)

    def test_annotations(self):  # L21
        for where, node in self.nodes(ast.FunctionDef):
            self.assertIsNone(node.returns, where)
            self.assertTrue(all(arg.annotation is None for arg in node.args.args), where)

    def test_python_s_own_are_called(self):  # L22
        for stem, tree in self.trees.items():
            called = {id(node.func) for node in ast.walk(tree) if isinstance(node, ast.Call)}
            for node in ast.walk(tree):
                if is_call_of(node, {"isinstance"}):
                    called.update(id(part) for part in ast.walk(node.args[1]))
                elif isinstance(node, ast.ClassDef):
                    called.update(id(base) for base in node.bases)
                elif isinstance(node, ast.ExceptHandler):
                    called.add(id(node.type))
            for node in ast.walk(tree):
                if isinstance(node, ast.Name) and hasattr(builtins, node.id):
                    self.assertIn(id(node), called, f"{stem}:{node.lineno}")

    def test_keywords(self):  # L22
        for where, node in self.nodes(ast.Call):
            if node.keywords and isinstance(node.func, ast.Name) and hasattr(builtins, node.func.id):
                self.assertIn(node.func.id, {"sorted", "min", "max", "sum", "enumerate", "zip"}, where)
            if node.keywords and isinstance(node.func, ast.Attribute):
                self.assertNotIn(node.func.attr, OWN_METHODS, where)

    def test_walked_at_once(self):  # L23
        for stem, tree in self.trees.items():
            fine = {id(node) for node in places_for_walks(tree)}
            for node in ast.walk(tree):
                if is_walked_once(node):
                    self.assertIn(id(node), fine, f"{stem}:{node.lineno}")

    def test_what_is_walked_is_not_changed(self):  # L23
        for where, loop in self.nodes(ast.For):
            walked = {ast.dump(node) for node in ast.walk(loop.iter) if isinstance(node, (ast.Name, ast.Attribute))}
            if is_call_of(loop.iter, {"list", "sorted", "range"}):
                continue
            for node in ast.walk(loop):
                if isinstance(node, ast.Call) and isinstance(node.func, ast.Attribute) and node.func.attr in CHANGES:
                    self.assertNotIn(ast.dump(node.func.value), walked, where)
                if isinstance(node, ast.Subscript) and isinstance(node.ctx, ast.Store):
                    self.assertNotIn(ast.dump(node.value), walked, where)

    def test_no_sets(self):  # L24
        for where, node in self.nodes((ast.Set, ast.Name)):
            self.assertFalse(isinstance(node, ast.Set) or node.id in ("set", "frozenset"), where)

    def test_f_strings(self):  # L7, L27
        for where, node in self.nodes(ast.FormattedValue):
            self.assertIsInstance(node.value, ast.Name, where)
            self.assertIsNone(node.format_spec, where)


if __name__ == "__main__":
    unittest.main()
