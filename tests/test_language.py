"""Rules of LANGUAGE.md that can be seen from a file's lines and its syntax tree alone."""

import ast
import unittest
import warnings
from pathlib import Path

PACKAGE = Path(__file__).resolve().parent.parent / "kindsure"
BUILTINS = {
    "len", "range", "enumerate", "zip", "min", "max", "sum", "abs", "sorted", "reversed", "int", "str", "bool",
    "list", "tuple", "dict", "set", "isinstance", "ord", "repr", "any", "all", "divmod", "ValueError",
}
INTERFACE = {
    "kinds": {"is_of": ["value", "kind"], "fits": ["kind", "other"], "meeting": ["kind", "other"]},
    "judging": {"judged": ["deeds", "names", "tree"]},
    "reckoning": {"reckoned": ["deeds", "names", "tree"]},
}
# What an own method or attribute may be called although builtin values have a method of that name (L26).
FREE = {"add", "discard", "count", "index", "title", "find", "get", "join", "lower", "upper", "split", "strip", "copy"}
MODULE_LEVEL = (ast.Expr, ast.ImportFrom, ast.FunctionDef, ast.ClassDef, ast.Assign)


def sources():
    return sorted(PACKAGE.rglob("*.py"))


def trees():
    return [(path, ast.parse(path.read_text(encoding="utf-8"))) for path in sources()]


def bound_names(tree):
    """The names that a file gives to something, wherever it does."""
    found = set()
    for node in ast.walk(tree):
        if isinstance(node, (ast.FunctionDef, ast.ClassDef)):
            found.add(node.name)
        elif isinstance(node, ast.arg):
            found.add(node.arg)
        elif isinstance(node, ast.alias):
            found.add(node.asname or node.name)
        elif isinstance(node, ast.Name) and isinstance(node.ctx, ast.Store):
            found.add(node.id)
    return found


class TheFiles(unittest.TestCase):
    def test_the_package_is_a_folder_of_sources_alone(self):
        found = [path.name for path in PACKAGE.iterdir() if path.name != "__pycache__"]
        self.assertIn("__init__.py", found)
        self.assertEqual([name for name in found if not name.endswith(".py") or name != name.lower()], [])

    def test_characters_and_sizes(self):
        for path in sources():
            text = path.read_text(encoding="utf-8")
            self.assertTrue(all(sign == "\n" or " " <= sign <= "~" for sign in text), path)
            self.assertLessEqual(len(text.split("\n")), 399, path)
            self.assertLessEqual(max(map(len, text.split("\n"))), 120, path)

    def test_python_warns_of_no_line(self):
        with warnings.catch_warnings():
            warnings.simplefilter("error")
            for path in sources():
                compile(path.read_text(encoding="utf-8"), str(path), "exec")

    def test_functions_have_forty_lines_at_most(self):
        for path, tree in trees():
            for node in ast.walk(tree):
                if isinstance(node, ast.FunctionDef):
                    self.assertLessEqual(node.end_lineno - node.lineno + 1, 40, (path, node.name))
                    self.assertEqual(node.decorator_list, [], (path, node.name))

    def test_module_level(self):
        for path, tree in trees():
            for node in tree.body:
                self.assertIsInstance(node, MODULE_LEVEL, path)
                if isinstance(node, ast.Expr):
                    self.assertIsInstance(node.value, ast.Constant, path)

    def test_imports_are_from_the_package_by_full_names(self):
        for path, tree in trees():
            for node in ast.walk(tree):
                self.assertNotIsInstance(node, ast.Import, path)
                if isinstance(node, ast.ImportFrom):
                    self.assertEqual((node.level, node.module.split(".")[0]), (0, "kindsure"), path)

    def test_no_other_builtin_is_used_and_none_is_given_another_meaning(self):
        every = set(dir(__builtins__)) if not isinstance(__builtins__, dict) else set(__builtins__)
        for path, tree in trees():
            used = {node.id for node in ast.walk(tree) if isinstance(node, ast.Name)}
            self.assertEqual((used & every) - BUILTINS, set(), path)
            self.assertEqual(bound_names(tree) & every, set(), path)

    def test_own_methods_and_attributes_have_no_name_of_a_builtin_values_method(self):
        taken = {name for kind in (str, int, list, dict, set, bytes) for name in dir(kind)} | {"args", "format", "mro"}
        for path, tree in trees():
            for node in ast.walk(tree):
                if isinstance(node, ast.Attribute) and isinstance(node.ctx, ast.Store):
                    self.assertNotIn(node.attr, taken - FREE, path)
                elif isinstance(node, ast.ClassDef):
                    own = {row.name for row in node.body if isinstance(row, ast.FunctionDef)} - {"__init__"}
                    self.assertEqual(own & (taken - FREE), set(), path)

    def test_is_stands_beside_none_true_and_false_alone(self):
        for path, tree in trees():
            for node in ast.walk(tree):
                if isinstance(node, ast.Compare) and isinstance(node.ops[0], (ast.Is, ast.IsNot)):
                    self.assertIsInstance(node.comparators[0], ast.Constant, path)

    def test_no_two_files_import_from_each_other(self):
        wanted = {}
        for path, tree in trees():
            found = [node.module for node in ast.walk(tree) if isinstance(node, ast.ImportFrom)]
            wanted["kindsure." + path.stem] = set(found)
        while wanted:
            free = [name for name in wanted if not wanted[name] & set(wanted)]
            self.assertTrue(free, wanted)
            for name in free:
                del wanted[name]

    def test_the_functions_of_the_interface_are_defined_in_their_files(self):
        for path, tree in trees():
            defined = {node.name: node for node in tree.body if isinstance(node, ast.FunctionDef)}
            for name, params in INTERFACE.get(path.stem, {}).items():
                found = defined[name].args
                self.assertEqual([param.arg for param in found.args], params, (path, name))
                self.assertEqual((found.defaults, found.kwonlyargs, found.vararg, found.kwarg), ([], [], None, None))


if __name__ == "__main__":
    unittest.main()
