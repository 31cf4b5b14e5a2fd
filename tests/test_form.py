"""Those rules of LANGUAGE.md that a short test can see; the others need a reader."""

import ast
import unittest
from pathlib import Path

PACKAGE = Path(__file__).resolve().parent.parent / "breakback"
LIBRARY = ("heapq", "math", "itertools", "collections", "__future__")
BUILTINS = (
    "len range enumerate zip map min max sum abs sorted reversed int str bool bytes list tuple dict set frozenset "
    "isinstance ord repr any all divmod pow getattr hasattr setattr type iter next super property staticmethod "
    "classmethod Exception ValueError TypeError KeyError IndexError LookupError ZeroDivisionError ArithmeticError "
    "OverflowError RuntimeError NotImplementedError AttributeError StopIteration NotImplemented object"
).split()

BARRED = "register mro elements open input law version_info with_traceback add_note eval exec id vars dir help".split()


def trees():
    """The name, the text and the parsed text of each file of the package."""
    for path in sorted(PACKAGE.rglob("*.py")):
        text = path.read_text(encoding="utf-8")
        yield path.name, text, ast.parse(text)


def functions(tree):
    return [node for node in ast.walk(tree) if isinstance(node, ast.FunctionDef)]


def given_names(tree):
    """All names to which something in the file gives a meaning."""
    for node in ast.walk(tree):
        if isinstance(node, ast.Name) and isinstance(node.ctx, ast.Store):
            yield node.id
        elif isinstance(node, (ast.FunctionDef, ast.ClassDef)):
            yield node.name
        elif isinstance(node, ast.arg):
            yield node.arg
        elif isinstance(node, ast.alias):
            yield node.asname or node.name


def imported(tree):
    """The module and the name of each import of a file."""
    return [(node.module, alias.name) for node in ast.walk(tree) if isinstance(node, ast.ImportFrom)
            for alias in node.names]


class Form(unittest.TestCase):
    def test_the_folder_holds_python_files_alone(self):
        for path in PACKAGE.rglob("*"):
            if "__pycache__" not in path.parts:
                self.assertTrue(path.is_dir() or path.suffix == ".py", path)

    def test_files_lines_and_functions_are_short(self):
        for name, text, tree in trees():
            lines = text.splitlines()
            self.assertLessEqual(len(lines), 399, name)
            self.assertLessEqual(max(map(len, lines)), 120, name)
            for function in functions(tree):
                self.assertLessEqual(function.end_lineno - function.lineno + 1, 40, (name, function.name))

    def test_characters_are_plain(self):
        for name, text, _ in trees():
            self.assertTrue(all(sign == "\n" or " " <= sign <= "~" for sign in text), name)

    def test_imports_are_of_the_package_and_what_it_may_use(self):
        for name, _, tree in trees():
            for node in ast.walk(tree):
                self.assertNotIsInstance(node, ast.Import, name)
                if isinstance(node, ast.ImportFrom):
                    self.assertEqual(node.level, 0, name)
                    self.assertTrue(node.module in LIBRARY or node.module.startswith("breakback."), name)
                    self.assertNotIn("*", [alias.name for alias in node.names], name)

    def test_each_name_is_known(self):
        for name, _, tree in trees():
            known = {*given_names(tree), *BUILTINS}
            for node in ast.walk(tree):
                if isinstance(node, ast.Name):
                    self.assertIn(node.id, known, name)

    def test_no_builtin_is_given_another_meaning(self):
        for name, _, tree in trees():
            self.assertEqual([given for given in given_names(tree) if given in BUILTINS], [], name)

    def test_no_local_name_is_that_of_an_import_or_a_class(self):
        for name, _, tree in trees():
            taken = [other for _, other in imported(tree)]
            taken += [node.name for node in ast.walk(tree) if isinstance(node, ast.ClassDef)]
            given = [node.id for node in ast.walk(tree)
                     if isinstance(node, ast.Name) and isinstance(node.ctx, ast.Store)]
            given += [node.arg for node in ast.walk(tree) if isinstance(node, ast.arg)]
            self.assertEqual(set(taken) & set(given), set(), name)

    def test_each_import_names_the_file_that_defines_the_name(self):
        defined = {f"breakback.{name[:-3]}": {node.name for node in tree.body if hasattr(node, "name")}
                   | {target.id for node in tree.body if isinstance(node, ast.Assign) for target in node.targets}
                   for name, _, tree in trees()}
        for name, _, tree in trees():
            for module, other in imported(tree):
                if module in defined:
                    self.assertIn(other, defined[module], name)

    def test_no_two_files_import_from_each_other(self):
        waiting = {f"breakback.{name[:-3]}": {module for module, _ in imported(tree)} for name, _, tree in trees()}
        while waiting:
            free = [name for name, needed in waiting.items() if not needed & set(waiting)]
            self.assertNotEqual(free, [], waiting)
            for name in free:
                del waiting[name]

    def test_lambdas_on_one_line_have_parameters_of_different_names(self):
        for name, _, tree in trees():
            seen = set()
            for node in ast.walk(tree):
                if isinstance(node, ast.Lambda):
                    key = (node.lineno, tuple(arg.arg for arg in node.args.args))
                    self.assertNotIn(key, seen, name)
                    seen.add(key)

    def test_words_that_stand_nowhere(self):
        for name, text, tree in trees():
            words = {node.id for node in ast.walk(tree) if isinstance(node, ast.Name)}
            words |= {node.arg for node in ast.walk(tree) if isinstance(node, ast.arg)}
            words |= {node.attr for node in ast.walk(tree) if isinstance(node, ast.Attribute)}
            self.assertEqual(words & set(BARRED), set(), name)
            kinds = (ast.Yield, ast.YieldFrom, ast.Global, ast.Await)
            self.assertFalse([node for node in ast.walk(tree) if isinstance(node, kinds)], name)

    def test_no_floats_and_no_division_into_them(self):
        for name, _, tree in trees():
            for node in ast.walk(tree):
                self.assertNotIsInstance(node, ast.Div, name)
                if isinstance(node, ast.Constant):
                    self.assertNotIsInstance(node.value, (float, complex), name)


if __name__ == "__main__":
    unittest.main()
