"""The interface: names, the files they are defined in, and the names of their parameters."""

import ast
import importlib
import inspect
import unittest
from pathlib import Path

PACKAGE = Path(__file__).resolve().parent.parent / "breakback"

FUNCTIONS = {
    "bits": {
        "bits": ["length", "number"], "number_of": ["string"], "xor": ["first", "second"],
        "parity": ["first", "second"],
    },
    "blocks": {
        "check_block": ["block"], "longer": ["block", "k"], "tree": ["block", "d"], "counter": ["block", "c"],
        "cut": ["block", "b"], "hardbits": ["block"], "row_of": ["block", "string"],
        "value_of": ["block", "key", "string"],
    },
}
CLASSES = {
    "errors": ["BreakError", "BadBlock", "BadBreaker", "BadGame", "BadScheme", "BadChoice", "BadMessage", "TooMany",
               "BadText"],
}


def defined(name, kind):
    """The names of all functions or classes that are defined at the module level of a file."""
    text = (PACKAGE / f"{name}.py").read_text(encoding="utf-8")
    return {node.name for node in ast.parse(text).body if isinstance(node, kind)}


class Interface(unittest.TestCase):
    def test_functions_and_their_parameters(self):
        for module, functions in FUNCTIONS.items():
            for name, parameters in functions.items():
                with self.subTest(module=module, name=name):
                    self.assertIn(name, defined(module, ast.FunctionDef))
                    signature = inspect.signature(getattr(importlib.import_module(f"breakback.{module}"), name))
                    self.assertEqual(list(signature.parameters), parameters)
                    for parameter in signature.parameters.values():
                        self.assertIs(parameter.kind, inspect.Parameter.POSITIONAL_OR_KEYWORD)
                        self.assertIs(parameter.default, inspect.Parameter.empty)

    def test_classes(self):
        for module, classes in CLASSES.items():
            for name in classes:
                with self.subTest(module=module, name=name):
                    self.assertIn(name, defined(module, ast.ClassDef))
                    self.assertIsInstance(getattr(importlib.import_module(f"breakback.{module}"), name), type)


if __name__ == "__main__":
    unittest.main()
