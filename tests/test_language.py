"""Those rules of LANGUAGE.md, and of point 0.2, that can be read off the files one by one."""

import ast
import builtins
import os
import unittest

FOLDER = os.path.join(os.path.dirname(os.path.dirname(os.path.abspath(__file__))), "unpartedrows")
LIBRARY = {
    "math": {"gcd", "lcm", "isqrt", "comb", "perm", "factorial"},
    "itertools": {"product", "combinations", "permutations", "chain", "accumulate", "pairwise", "islice",
                  "zip_longest"},
    "heapq": {"heappush", "heappop", "heapify", "heapreplace", "heappushpop"},
    "collections": {"deque", "defaultdict"},
}
BUILTINS = set("""len range enumerate zip min max sum abs sorted reversed int str bool list tuple dict set isinstance
    ord repr any all divmod map iter next ValueError KeyError IndexError super""".split())
BARRED = set("""register mro elements open input law version_info eval exec compile globals locals vars dir id type
    print float bytes frozenset getattr setattr hasattr chr round pow hash""".split())

METHODS = set("""append clear copy count endswith extend find get index insert isalnum isalpha isdigit islower isspace
    isupper items join keys ljust lower lstrip partition pop remove replace reverse rfind rjust rpartition rsplit rstrip
    setdefault split splitlines startswith strip update upper values zfill bit_length""".split())


def files():
    return sorted(name for name in os.listdir(FOLDER) if name != "__pycache__")


def read(name):
    with open(os.path.join(FOLDER, name), encoding="utf-8") as file:
        return file.read()


def trees():
    """The syntax tree of each file."""
    return [ast.parse(read(name), name) for name in files()]


def nodes():
    return [node for tree in trees() for node in ast.walk(tree)]


class Language(unittest.TestCase):
    def test_the_folder_has_plain_files_only(self):
        for name in files():
            with self.subTest(name):
                self.assertTrue(name.endswith(".py") and name[:-3].replace("_", "a").isalnum())
                self.assertEqual(name, name.lower())

    def test_sizes_and_characters(self):
        for name in files():
            with self.subTest(name):
                lines = read(name).splitlines()
                self.assertLessEqual(len(lines), 399)
                self.assertLessEqual(max(len(line) for line in lines), 120)
                self.assertTrue(all(" " <= sign <= "~" for line in lines for sign in line))

    def test_functions_are_small(self):
        for node in nodes():
            if isinstance(node, ast.FunctionDef):
                self.assertLessEqual(node.end_lineno - node.lineno + 1, 40, node.name)

    def test_nothing_is_imported_from_outside_but_what_may_be(self):
        for tree in trees():
            for node in ast.walk(tree):
                self.assertNotIsInstance(node, ast.Import)
                if isinstance(node, ast.ImportFrom):
                    self.assertIn(node, tree.body)
                    self.assertEqual(node.level, 0)
                    names = {alias.name for alias in node.names}
                    if not node.module.startswith("unpartedrows."):
                        self.assertLessEqual(names, LIBRARY[node.module])

    def test_each_name_is_imported_from_the_file_that_defines_it(self):
        for node in nodes():
            if isinstance(node, ast.ImportFrom) and node.module.startswith("unpartedrows."):
                body = ast.parse(read(node.module.partition(".")[2] + ".py")).body
                defined = [each.name for each in body if isinstance(each, (ast.FunctionDef, ast.ClassDef))]
                defined += [each.targets[0].id for each in body if isinstance(each, ast.Assign)]
                for alias in node.names:
                    self.assertIn(alias.name, defined)
                    self.assertIsNone(alias.asname)

    def test_modules_hold_imports_functions_classes_and_plain_values(self):
        for tree in trees():
            bound = []
            for node in tree.body[1:]:
                self.assertIsInstance(node, (ast.ImportFrom, ast.FunctionDef, ast.ClassDef, ast.Assign))
                if isinstance(node, ast.ImportFrom):
                    bound.extend(alias.name for alias in node.names)
                elif isinstance(node, ast.Assign):
                    self.assertEqual(len(node.targets), 1)
                    ast.literal_eval(node.value)
                    bound.append(node.targets[0].id)
                else:
                    bound.append(node.name)
            self.assertEqual(len(bound), len(set(bound)))

    def test_no_local_name_is_an_import_or_a_builtin(self):
        for tree in trees():
            imported = {alias.name for node in tree.body if isinstance(node, ast.ImportFrom) for alias in node.names}
            for node in ast.walk(tree):
                if isinstance(node, ast.arg):
                    self.assertNotIn(node.arg, imported | BARRED | set(dir(builtins)))
                if isinstance(node, ast.Name) and isinstance(node.ctx, ast.Store):
                    self.assertNotIn(node.id, imported | BARRED | set(dir(builtins)))

    def test_names_and_strings(self):
        for node in nodes():
            self.assertNotIsInstance(node, (ast.Div, ast.Global, ast.AsyncFunctionDef, ast.Lambda))
            if isinstance(node, ast.Name):
                self.assertNotIn(node.id, BARRED)
                self.assertFalse(node.id.startswith("__"))
                if isinstance(node.ctx, ast.Load):
                    self.assertNotIn(node.id, set(dir(builtins)) - BUILTINS)
            if isinstance(node, ast.Constant):
                self.assertNotIsInstance(node.value, (float, complex))
                if isinstance(node.value, str):
                    self.assertNotIn("%", node.value)

    def test_classes(self):
        methods, attributes = set(), set()
        for node in nodes():
            if isinstance(node, ast.ClassDef):
                self.assertEqual(node.decorator_list, [])
                self.assertLessEqual(len(node.bases), 1)
                for each in node.body[1:]:
                    self.assertIsInstance(each, ast.FunctionDef)
                    self.assertEqual(each.decorator_list, [])
                    self.assertTrue(each.name == "__init__" or not each.name.startswith("__"))
                    methods.add(each.name)
            if isinstance(node, ast.Attribute) and isinstance(node.ctx, ast.Store):
                self.assertEqual(node.value.id, "self")
                attributes.add(node.attr)
        self.assertEqual(methods & attributes, set())
        # With a method add of its own a package must not add to sets.
        for name in methods - {"__init__", "add"}:
            self.assertFalse(any(hasattr(kind, name) for kind in (str, int, list, dict, tuple, set, bytes)), name)
        for node in nodes():
            if isinstance(node, ast.Attribute) and isinstance(node.ctx, ast.Load) and node.attr not in methods:
                self.assertTrue(node.attr in attributes or node.attr in METHODS, node.attr)
            if isinstance(node, ast.Attribute):
                self.assertNotIn(node.attr, ("add", "discard"))
