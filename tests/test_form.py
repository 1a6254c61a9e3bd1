"""A part of the rules for the form of the code: what can be seen without much ado."""

import ast
import os
import unittest

ROOT = os.path.join(os.path.dirname(os.path.dirname(os.path.abspath(__file__))), "tidewarden")
BUILTINS = set("""
    len range enumerate zip min max sum abs sorted reversed int str bool bytes list tuple dict set frozenset
    isinstance ord repr any all divmod pow getattr hasattr setattr iter next map type super property
    Exception ValueError TypeError KeyError IndexError LookupError ZeroDivisionError ArithmeticError
    OverflowError RuntimeError NotImplementedError AttributeError StopIteration NotImplemented
""".split())
METHODS = set("""
    append clear copy count endswith extend find get index insert isalnum isalpha isdigit islower isspace
    isupper items join keys ljust lower lstrip partition pop remove replace reverse rfind rjust rpartition
    rsplit rstrip setdefault split splitlines startswith strip update upper values zfill bit_length sort
    add discard removeprefix removesuffix
""".split())
LIBRARY = {
    "heapq": {"heappush", "heappop", "heapify", "heapreplace", "heappushpop"},
    "math": {"gcd", "lcm", "isqrt", "comb", "perm", "factorial"},
    "itertools": {"product", "combinations", "permutations", "chain", "accumulate", "pairwise", "islice"},
}
KINDS_OF_STATEMENT = (ast.FunctionDef, ast.ClassDef, ast.ImportFrom, ast.Assign, ast.Expr)
BARRED = (
    ast.AsyncFunctionDef, ast.AsyncFor, ast.AsyncWith, ast.Await, ast.Import, ast.Div, ast.MatMult)


def package_files():
    for folder, folders, names in os.walk(ROOT):
        folders[:] = [name for name in folders if name != "__pycache__"]
        for name in sorted(names):
            yield os.path.join(folder, name)


class FormTest(unittest.TestCase):
    def setUp(self):
        self.texts = {}
        for path in package_files():
            with open(path, encoding="utf-8") as file:
                self.texts[os.path.basename(path)] = file.read()
        self.trees = {name: ast.parse(text) for name, text in self.texts.items()}

    def nodes(self, *kinds):
        for name, tree in self.trees.items():
            for node in ast.walk(tree):
                if isinstance(node, kinds):
                    yield name, node

    def test_files_and_signs(self):
        self.assertIn("__init__.py", self.texts)
        for name, text in self.texts.items():
            self.assertTrue(name.endswith(".py") and name == name.lower(), name)
            self.assertTrue(all(sign == "\n" or " " <= sign <= "~" for sign in text), name)
            self.assertLessEqual(text.count("\n"), 399, name)
            self.assertLessEqual(max([len(line) for line in text.split("\n")]), 120, name)

    def test_functions(self):
        for name, node in self.nodes(ast.FunctionDef):
            self.assertLessEqual(node.end_lineno - node.lineno + 1, 40, (name, node.name))
            self.assertFalse(
                [part for part in node.decorator_list if ast.unparse(part) != "property"], (name, node.name))

    def test_imports(self):
        for name, node in self.nodes(ast.Import, ast.ImportFrom):
            self.assertIsInstance(node, ast.ImportFrom, name)
            self.assertEqual(node.level, 0)
            found = {part.name for part in node.names}
            self.assertFalse([part for part in node.names if part.asname], name)
            if node.module in LIBRARY:
                self.assertLessEqual(found, LIBRARY[node.module], name)
            else:
                self.assertTrue(node.module.startswith("tidewarden."), (name, node.module))
                module = self.trees[node.module.split(".")[1] + ".py"]
                bound = set()
                for part in module.body:
                    if isinstance(part, (ast.FunctionDef, ast.ClassDef)):
                        bound.add(part.name)
                    elif isinstance(part, ast.Assign):
                        bound.add(part.targets[0].id)
                self.assertLessEqual(found, bound, name)

    def test_module_level(self):
        for name, tree in self.trees.items():
            bound = []
            for node in tree.body:
                self.assertIsInstance(node, KINDS_OF_STATEMENT, name)
                if isinstance(node, ast.Assign):
                    self.assertEqual(len(node.targets), 1)
                    bound.append(node.targets[0].id)
                elif isinstance(node, ast.ImportFrom):
                    bound += [part.name for part in node.names]
                elif isinstance(node, ast.Expr):
                    self.assertIsInstance(node.value, ast.Constant, name)
                else:
                    bound.append(node.name)
            self.assertEqual(len(bound), len(set(bound)), name)
            self.assertFalse(set(bound) & BUILTINS, name)

    def test_no_local_name_hides_another(self):
        for name, tree in self.trees.items():
            imported = {part.name for node in tree.body if isinstance(node, ast.ImportFrom) for part in node.names}
            classes = {node.name for node in tree.body if isinstance(node, ast.ClassDef)}
            for node in ast.walk(tree):
                local = None
                if isinstance(node, ast.arg):
                    local = node.arg
                elif isinstance(node, ast.Name) and isinstance(node.ctx, ast.Store):
                    local = node.id
                self.assertNotIn(local, imported | classes | BUILTINS, name)

    def test_expressions(self):
        self.assertEqual([(name, ast.dump(node)) for name, node in self.nodes(*BARRED)], [])
        for name, node in self.nodes(ast.Constant):
            self.assertNotIsInstance(node.value, (float, complex), name)
            if isinstance(node.value, str):
                self.assertNotIn("%", node.value, name)
        for name, node in self.nodes(ast.Call):
            if isinstance(node.func, ast.Attribute):
                own = {part.name for _, part in self.nodes(ast.FunctionDef)}
                self.assertIn(node.func.attr, METHODS | own, name)

    def test_lists_are_asked_instead_of_generators(self):
        # A class with a comparison of its own is in the package.
        self.assertEqual([(name, ast.unparse(node)) for name, node in self.nodes(ast.GeneratorExp)], [])
        for name, node in self.nodes(ast.Attribute):
            self.assertNotEqual(node.attr, "sort", name)

    def test_no_circles_of_imports(self):
        imports = {
            name[:-3]: [part.module.split(".")[1] for part in tree.body
                        if isinstance(part, ast.ImportFrom) and part.module.startswith("tidewarden.")]
            for name, tree in self.trees.items()}
        settled = []
        while len(settled) < len(imports):
            more = [name for name in imports if name not in settled and set(imports[name]) <= set(settled)]
            self.assertTrue(more, sorted(set(imports) - set(settled)))
            settled += more

    def test_names_are_known(self):
        for name, tree in self.trees.items():
            known = set(BUILTINS) | {"_"}
            for node in ast.walk(tree):
                if isinstance(node, (ast.FunctionDef, ast.ClassDef)):
                    known.add(node.name)
                elif isinstance(node, ast.arg):
                    known.add(node.arg)
                elif isinstance(node, ast.alias):
                    known.add(node.name)
                elif isinstance(node, ast.Name) and isinstance(node.ctx, ast.Store):
                    known.add(node.id)
            for node in ast.walk(tree):
                if isinstance(node, ast.Name):
                    self.assertIn(node.id, known, name)


if __name__ == "__main__":
    unittest.main()
