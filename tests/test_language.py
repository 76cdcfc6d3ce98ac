"""The rules of the language subset that can be seen in the files of the package."""

import ast
import unittest
from pathlib import Path

FOLDER = Path(__file__).resolve().parent.parent / "turnsneeded"
FILES = sorted(FOLDER.rglob("*.py"))
TREES = {path: ast.parse(path.read_text()) for path in FILES}

LIBRARY = {
    "heapq": {"heappush", "heappop", "heapify", "heapreplace", "heappushpop"},
    "math": {"gcd", "lcm", "isqrt", "comb", "perm", "factorial"},
    "itertools": {"product", "combinations", "permutations", "chain", "accumulate", "pairwise", "islice", "zip_longest"},
    "collections": {"defaultdict"},
}
ERRORS = {"Exception", "ValueError", "TypeError", "KeyError", "IndexError", "LookupError", "ZeroDivisionError",
          "ArithmeticError", "OverflowError", "RuntimeError", "NotImplementedError", "AttributeError", "StopIteration"}
BUILTINS = {"len", "range", "enumerate", "zip", "min", "max", "sum", "abs", "sorted", "reversed", "int", "str", "bool",
            "list", "tuple", "dict", "set", "isinstance", "ord", "repr", "any", "all", "divmod", "pow", "map", "iter",
            "next", "getattr", "hasattr", "setattr", "super", "property", "staticmethod", "classmethod",
            "NotImplemented", *ERRORS}
PYTHONS_OWN = set(dir(__builtins__) if not isinstance(__builtins__, dict) else __builtins__)
NO_NODES = (ast.AsyncFunctionDef, ast.Global, ast.Await, ast.AsyncFor, ast.AsyncWith, ast.Div, ast.MatMult)
PLAIN_NODES = (ast.Constant, ast.Name, ast.Tuple, ast.List, ast.Dict, ast.BinOp, ast.UnaryOp, ast.operator, ast.unaryop,
               ast.expr_context)


def nodes(*kinds):
    """Pairs of file and node for all nodes of some kinds."""
    for path, tree in TREES.items():
        for node in ast.walk(tree):
            if isinstance(node, kinds):
                yield path.name, node


def bound_names(tree):
    """All names that a file gives to something that is no attribute and no method."""
    for node in ast.walk(tree):
        if isinstance(node, (ast.FunctionDef, ast.ClassDef)):
            yield node.name
        elif isinstance(node, ast.arg):
            yield node.arg
        elif isinstance(node, ast.Name) and isinstance(node.ctx, ast.Store):
            yield node.id
        elif isinstance(node, ast.ExceptHandler) and node.name:
            yield node.name


class Files(unittest.TestCase):
    def test_there_are_just_python_files_of_plain_names(self):
        for path in FOLDER.rglob("*"):
            if "__pycache__" not in path.parts:
                self.assertTrue(path.is_dir() or path.suffix == ".py", path)
                self.assertRegex(path.stem, r"\A[a-z_][a-z0-9_]*\Z")
        self.assertIn(FOLDER / "__init__.py", FILES)

    def test_size_and_characters(self):
        for path in FILES:
            text = path.read_bytes().decode("ascii")
            lines = text.splitlines()
            self.assertLessEqual(len(lines), 399, path)
            self.assertLessEqual(max(map(len, lines)), 120, path)
            self.assertEqual([sign for sign in text if sign != "\n" and not " " <= sign <= "~"], [], path)

    def test_functions_have_at_most_40_lines(self):
        for path, node in nodes(ast.FunctionDef):
            self.assertLessEqual(node.end_lineno - node.lineno + 1, 40, (path, node.name))


class Imports(unittest.TestCase):
    def test_imports_are_of_the_package_and_of_few_more(self):
        self.assertEqual([(path, ast.dump(node)) for path, node in nodes(ast.Import)], [])
        for path, node in nodes(ast.ImportFrom):
            self.assertEqual(node.level, 0, path)
            names = {alias.name for alias in node.names}
            if node.module in LIBRARY:
                self.assertLessEqual(names, LIBRARY[node.module], path)
                self.assertEqual([alias.asname for alias in node.names if alias.asname], [], path)
            else:
                self.assertTrue(node.module.startswith("turnsneeded."), path)
                home = FOLDER / (node.module.split(".")[1] + ".py")
                there = {part.name for part in TREES[home].body if isinstance(part, (ast.FunctionDef, ast.ClassDef))}
                there |= {target.id for part in TREES[home].body if isinstance(part, ast.Assign) for target in part.targets}
                self.assertLessEqual(names, there, path)

    def test_imports_stand_at_the_top(self):
        for path, tree in TREES.items():
            places = [k for k, node in enumerate(tree.body) if isinstance(node, ast.ImportFrom)]
            self.assertEqual(places, list(range(1, len(places) + 1)), path)
            deep = [node for node in ast.walk(tree) if isinstance(node, ast.ImportFrom)]
            self.assertEqual(len(deep), len(places), path)

    def test_no_two_files_import_from_each_other(self):
        ahead = {}
        for path, node in nodes(ast.ImportFrom):
            if node.module not in LIBRARY:
                ahead.setdefault(path, set()).add(node.module.split(".")[1] + ".py")
        left = {path.name for path in FILES}
        while left:
            free = {path for path in left if not ahead.get(path, set()) & left}
            self.assertTrue(free, left)
            left -= free

    def test_each_import_is_used(self):
        for path, tree in TREES.items():
            used = {node.id for node in ast.walk(tree) if isinstance(node, ast.Name)}
            for node in tree.body:
                if isinstance(node, ast.ImportFrom):
                    self.assertLessEqual({alias.asname or alias.name for alias in node.names}, used, path)


class Code(unittest.TestCase):
    def test_modules_hold_plain_things(self):
        for path, tree in TREES.items():
            for k, node in enumerate(tree.body):
                docstring = k == 0 and isinstance(node, ast.Expr) and isinstance(node.value, ast.Constant)
                kinds = (ast.ImportFrom, ast.FunctionDef, ast.ClassDef, ast.Assign)
                self.assertTrue(docstring or isinstance(node, kinds), (path.name, node.lineno))
                if isinstance(node, ast.Assign):
                    self.assertEqual(len(node.targets), 1)
                    for part in ast.walk(node.value):
                        self.assertIsInstance(part, PLAIN_NODES, (path.name, node.lineno))

    def test_no_statement_and_sign_that_is_barred(self):
        for path, node in nodes(*NO_NODES):
            self.fail((path, ast.dump(node)))
        for path, node in nodes(ast.Constant):
            self.assertNotIsInstance(node.value, (float, complex), path)

    def test_only_known_builtins_are_read(self):
        for path, tree in TREES.items():
            own = set(bound_names(tree))
            own |= {alias.name for node in tree.body if isinstance(node, ast.ImportFrom) for alias in node.names}
            for node in ast.walk(tree):
                if isinstance(node, ast.Name) and isinstance(node.ctx, ast.Load) and node.id not in own:
                    self.assertIn(node.id, BUILTINS, (path.name, node.lineno))

    def test_no_name_is_that_of_a_builtin_or_begins_with_two_underscores(self):
        for path, tree in TREES.items():
            methods = {part.name for node in ast.walk(tree) if isinstance(node, ast.ClassDef)
                       for part in node.body if isinstance(part, ast.FunctionDef)}
            for name in bound_names(tree):
                if name not in methods:
                    self.assertNotIn(name, PYTHONS_OWN, path)
                    self.assertFalse(name.startswith("__"), (path, name))

    def test_no_local_name_is_that_of_an_import_or_a_class_of_its_file(self):
        for path, tree in TREES.items():
            taken = {alias.name for node in tree.body if isinstance(node, ast.ImportFrom) for alias in node.names}
            taken |= {node.name for node in tree.body if isinstance(node, ast.ClassDef)}
            methods = [part for node in tree.body if isinstance(node, ast.ClassDef) for part in node.body]
            for node in tree.body + methods:
                if isinstance(node, ast.FunctionDef):
                    self.assertEqual(taken & (set(bound_names(node)) - {node.name}), set(), (path.name, node.name))

    def test_module_level_names_are_bound_once(self):
        for path, tree in TREES.items():
            names = []
            for node in tree.body:
                if isinstance(node, (ast.FunctionDef, ast.ClassDef)):
                    names.append(node.name)
                elif isinstance(node, ast.ImportFrom):
                    names.extend(alias.asname or alias.name for alias in node.names)
                elif isinstance(node, ast.Assign):
                    names.append(node.targets[0].id)
            self.assertEqual(sorted(names), sorted(set(names)), path)

    def test_lists_instead_of_generator_expressions(self):
        # Program has an __eq__, beside which any, all, sum and the like take lists.
        for path, node in nodes(ast.GeneratorExp):
            self.fail((path, node.lineno))

    def test_no_name_is_a_method_and_an_attribute(self):
        methods = {part.name for _, node in nodes(ast.ClassDef) for part in node.body if isinstance(part, ast.FunctionDef)}
        attributes = {node.attr for _, node in nodes(ast.Attribute) if isinstance(node.ctx, ast.Store)}
        self.assertEqual(methods & attributes, set())

    def test_nothing_is_added_to_sets(self):
        # Bench and Sheet have a method add, beside which no set is added to.
        for path, node in nodes(ast.Attribute):
            self.assertNotIn(node.attr, ("add", "discard", "sort"), (path, node.lineno))

    def test_no_error_of_python_is_caught(self):
        for path, node in nodes(ast.ExceptHandler):
            self.fail((path, node.lineno))

    def test_finally_holds_plain_assignments_alone(self):
        for path, node in nodes(ast.Try):
            for part in node.finalbody:
                self.assertIsInstance(part, ast.Assign, (path, part.lineno))
                self.assertEqual([one for one in ast.walk(part) if isinstance(one, (ast.Call, ast.Subscript))], [], path)

    def test_raise_creates_its_error_on_the_spot(self):
        for path, node in nodes(ast.Raise):
            self.assertTrue(node.exc is None or isinstance(node.exc, ast.Call) and isinstance(node.exc.func, ast.Name),
                            (path, node.lineno))

    def test_words_that_do_not_occur(self):
        barred = {"register", "mro", "elements", "open", "input", "law", "version_info", "with_traceback", "add_note",
                  "type", "typing", "enum", "eval", "exec", "vars", "globals", "locals", "compile", "id", "dir"}
        for path, tree in TREES.items():
            names = set(bound_names(tree)) | {node.attr for node in ast.walk(tree) if isinstance(node, ast.Attribute)}
            self.assertEqual(names & barred, set(), path)

    def test_strings_hold_no_barred_sign(self):
        for path, node in nodes(ast.Constant):
            if isinstance(node.value, str):
                self.assertNotIn(chr(37), node.value, (path, node.lineno))


if __name__ == "__main__":
    unittest.main()
