"""The interface: names, the files they are defined in, and the names of their parameters."""

import ast
import importlib
import inspect
import unittest
from pathlib import Path

PACKAGE = Path(__file__).resolve().parent.parent / "breakback"

FUNCTIONS = {
    "bits": {
        "bits": ["length", "number"], "number_of": ["string"], "xor": ["first", "second"],
        "parity": ["first", "second"],
    },
    "blocks": {
        "check_block": ["block"], "longer": ["block", "k"], "tree": ["block", "d"], "counter": ["block", "c"],
        "cut": ["block", "b"], "hardbits": ["block"], "row_of": ["block", "string"],
        "value_of": ["block", "key", "string"],
    },
    "breakers": {
        "check_breaker": ["breaker"], "is_plain": ["breaker"], "most_asks": ["breaker"], "read_breaker": ["text"],
        "write_breaker": ["breaker"],
    },
    "moves": {"move": ["breaker", "past"]},
    "games": {"check_game": ["game"], "play": ["game", "breaker", "choices"]},
    "chances": {
        "chance": ["game", "breaker", "most"], "ways": ["game", "breaker", "most"],
        "advantage": ["block", "breaker", "most"], "add": ["first", "second"], "less": ["first", "second"],
        "times": ["first", "second"], "fraction": ["numerator", "denominator"],
    },
    "schemes": {
        "check_goal": ["goal", "block"], "built": ["scheme", "block"], "gain": ["goal", "block", "breaker", "most"],
        "carried": ["goal", "block", "breaker"],
        "check_carried": ["goal", "block", "breaker", "made", "number", "most"],
        "inverter": ["goal", "block", "breaker"],
    },
    "best": {"best": ["block", "asks"]},
    "press": {"chain": ["block", "message"], "collide": ["block", "first", "second"]},
    "openings": {"double_openings": ["block"]},
}
CLASSES = {
    "errors": ["BreakError", "BadBlock", "BadBreaker", "BadGame", "BadScheme", "BadChoice", "BadMessage", "TooMany",
               "BadText"],
    "games": ["Play"],
}
# The parameters that are passed by keyword alone, with their default values.
KEYWORDS = {"most": 300000}


def defined(name, kind):
    """The names of all functions or classes that are defined at the module level of a file."""
    text = (PACKAGE / f"{name}.py").read_text(encoding="utf-8")
    return {node.name for node in ast.parse(text).body if isinstance(node, kind)}


class Interface(unittest.TestCase):
    def test_functions_and_their_parameters(self):
        for module, functions in FUNCTIONS.items():
            for name, parameters in functions.items():
                with self.subTest(module=module, name=name):
                    self.assertIn(name, defined(module, ast.FunctionDef))
                    signature = inspect.signature(getattr(importlib.import_module(f"breakback.{module}"), name))
                    self.assertEqual(list(signature.parameters), parameters)
                    for parameter in signature.parameters.values():
                        if parameter.name in KEYWORDS:
                            self.assertIs(parameter.kind, inspect.Parameter.KEYWORD_ONLY)
                            self.assertEqual(parameter.default, KEYWORDS[parameter.name])
                        else:
                            self.assertIs(parameter.kind, inspect.Parameter.POSITIONAL_OR_KEYWORD)
                            self.assertIs(parameter.default, inspect.Parameter.empty)

    def test_classes(self):
        for module, classes in CLASSES.items():
            for name in classes:
                with self.subTest(module=module, name=name):
                    self.assertIn(name, defined(module, ast.ClassDef))
                    self.assertIsInstance(getattr(importlib.import_module(f"breakback.{module}"), name), type)

    def test_attributes_of_a_play(self):
        found = importlib.import_module("breakback.games").play(("permutation", 1), ("say", ("1",)), [])
        self.assertEqual(vars(found), {"outcome": 1, "said": "1", "draws": [], "asked": []})


if __name__ == "__main__":
    unittest.main()
