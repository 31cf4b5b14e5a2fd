"""Promise 2 over the whole interface: calls leave their arguments alone and give the same again, in either form."""

import copy
import importlib
import subprocess
import sys
import unittest
from pathlib import Path

from breakback import errors
from breakback.errors import BadBlock, BadBreaker, BadGame, BadScheme, BreakError
from tests.sample_breakers import MADE, ONE, ZERO, all_different, ask, look, over, say, toss
from tests.samples import function, generator, no_blocks, same_kinds
from tests.test_interface import CLASSES, FUNCTIONS, KEYWORDS

ROOT = Path(__file__).resolve().parent.parent
BLOCK = ("block",)
G, H, F, ONE_TO_ONE = generator(1, 2), generator(4, 2), function(2, 1, 2), all_different(2, 2)
PLAIN, MARKER = look(0, ONE, toss(ZERO, ("say", (1,)))), ask("01", ("say", ("1", "1", 0)))
STREAM, NAMES = ("cut", 2, ("longer", 2, BLOCK)), ("tree", 2, BLOCK)

# Some right calls of each function of the interface, each as the values of its parameters.
CALLS = {
    "bits": [(3, 5), (0, 0)], "number_of": [("0101",), ("",)], "xor": [("01", "11")], "parity": [("01", "11")],
    "check_block": [(G,), (F,)], "longer": [(G, 3)], "tree": [(G, 3)], "counter": [(F, 2)], "cut": [(G, 1)],
    "hardbits": [(G,)], "row_of": [(G, "1")], "value_of": [(F, "10", "1")],
    "check_breaker": [(PLAIN,), (over(MADE[0], PLAIN),)], "is_plain": [(PLAIN,), (over(MADE[1], PLAIN),)],
    "most_asks": [(MARKER,)], "read_breaker": [("(toss (say) (say 1 b7))",)], "write_breaker": [(MARKER,)],
    "move": [(PLAIN, ["01"]), (PLAIN, ("10", 1)), (over(MADE[0], PLAIN), ["011", 2, 1])],
    "check_game": [(("swaps", 2, 3),)],
    "play": [(("next", G, True), PLAIN, [1, 0]), (("permutation", 2), MARKER, (3,))],
    "chance": [(("once", G, True, 1), ask("0011", PLAIN)), (("permutation", 2), MARKER, 4)],
    "ways": [(("generator", G, False), PLAIN), (("generator", G, False), PLAIN, 10)],
    "advantage": [(G, PLAIN), (F, ask("0", PLAIN)), (G, over(("longer", G, 2), PLAIN), 100)],
    "add": [((1, 2), (1, 3))], "less": [((1, 2), (1, 3))], "times": [((1, 2), (1, 3))], "fraction": [(4, -6)],
    "check_goal": [(("opening", "01", STREAM), G), (("marks", NAMES), G)], "built": [(STREAM, G), (NAMES, G)],
    "gain": [(("once", STREAM), G, ask("0011", PLAIN)), (("marks", NAMES), G, MARKER, 100)],
    "carried": [(("once", STREAM), G, ask("0011", PLAIN)), (("secrets", NAMES), G, MARKER)],
    "check_carried": [(("tell", STREAM), G, PLAIN, over(("cut", 2), PLAIN), 2), (("tell", BLOCK), F, ONE, ZERO, 1, 50)],
    "inverter": [(("tell", BLOCK), ONE_TO_ONE, PLAIN), (("next", ("longer", 2, BLOCK)), ONE_TO_ONE, PLAIN)],
    "best": [(G, 0), (F, 2)], "chain": [(H, "001101")], "collide": [(("generator", 2, 1, ("0",) * 4), "01", "10")],
    "double_openings": [(H,)],
}


def interface():
    """The module, the name, the function and its parameters, for each function of the interface."""
    for module, functions in FUNCTIONS.items():
        for name, parameters in functions.items():
            yield module, name, getattr(importlib.import_module(f"breakback.{module}"), name), parameters


def by_position(asked, parameters, values):
    keyed = {name: value for name, value in zip(parameters, values) if name in KEYWORDS}
    return asked(*values[:len(values) - len(keyed)], **keyed)


def shown(found):
    """What a call gave, with the attributes of a play in its place."""
    return vars(found) if type(found).__name__ == "Play" else found


class Calls(unittest.TestCase):
    def test_each_function_is_called(self):
        self.assertEqual(sorted(name for _, name, _, _ in interface()), sorted(CALLS))

    def test_arguments_are_not_modified_and_answers_stay_the_same(self):
        for _, name, asked, parameters in interface():
            for values in CALLS[name]:
                with self.subTest(name=name, values=values):
                    before = copy.deepcopy(values)
                    first = by_position(asked, parameters, values)
                    self.assertTrue(same_kinds(values, before))
                    kept = copy.deepcopy(shown(first))
                    self.spoil(first)
                    self.assertEqual(shown(by_position(asked, parameters, values)), kept)
                    self.assertEqual(shown(by_position(asked, parameters, before)), kept)
                    self.assertTrue(same_kinds(values, before))

    def spoil(self, found):
        """Modify all lists that a call gave."""
        for part in (found, *(vars(found).values() if type(found).__name__ == "Play" else ())):
            if isinstance(part, list):
                part.reverse()
                part.append("spoilt")

    def test_arguments_by_their_names_in_any_order(self):
        for _, name, asked, parameters in interface():
            for values in CALLS[name]:
                with self.subTest(name=name, values=values):
                    expected = shown(by_position(asked, parameters, values))
                    named = list(zip(parameters, values))
                    self.assertEqual(shown(asked(**dict(named))), expected)
                    self.assertEqual(shown(asked(**dict(reversed(named)))), expected)

    def test_most_is_not_taken_by_position(self):
        for _, name, asked, parameters in interface():
            if "most" in parameters:
                for values in CALLS[name]:
                    with self.assertRaises(TypeError):
                        asked(*values[:len(parameters) - 1], 1000)

    def test_lists_in_the_place_of_tuples_where_both_are_told(self):
        from breakback.games import play
        from breakback.moves import move
        self.assertEqual(move(PLAIN, ["10", 1]), move(PLAIN, ("10", 1)))
        self.assertEqual(vars(play(("next", G, True), PLAIN, [1, 1])), vars(play(("next", G, True), PLAIN, (1, 1))))


class Checks(unittest.TestCase):
    def test_every_function_that_is_handed_a_block_checks_it_first(self):
        wrong = [value for at, value in enumerate(no_blocks()) if at % 97 == 0]
        for _, name, asked, parameters in interface():
            if "block" in parameters:
                for value in (None, True, (), ("generator", 1, 2, ("01", "1")), list(G), ("generator", True, 2, G[3]),
                              *wrong):
                    for other in (None, 7, ("say", "1")):
                        handed = {one: value if one == "block" else other for one in parameters if one not in KEYWORDS}
                        with self.subTest(name=name, handed=handed), self.assertRaises(BadBlock):
                            asked(**handed)

    def test_then_the_goal_or_the_scheme_then_the_breaker(self):
        for _, name, asked, parameters in interface():
            handed = dict(zip(parameters, CALLS[name][0]))
            for told, error, wrong in (("goal", BadScheme, ["tell", BLOCK]), ("scheme", BadScheme, ("block", 1)),
                                       ("game", BadGame, ("generator", G, 1)), ("breaker", BadBreaker, ["say", ()]),
                                       ("made", BadBreaker, ("cut", 2))):
                if told in parameters:
                    later = [one for one in ("breaker", "made", "number", "choices", "past") if one in parameters]
                    later = later[later.index(told) + 1:] if told in later else later
                    # What comes later is wrong, too, and all ways are too many.
                    spoilt = {**handed, told: wrong, **{one: None for one in later}}
                    if "most" in parameters:
                        spoilt["most"] = 1
                    with self.subTest(name=name, told=told), self.assertRaises(error):
                        asked(**spoilt)

    def test_made_breakers_where_plain_ones_are_needed(self):
        for _, name, asked, parameters in interface():
            if "goal" in parameters and "breaker" in parameters:
                handed = dict(zip(parameters, CALLS[name][0]))
                for made in MADE:
                    with self.assertRaises(BadBreaker):
                        asked(**{**handed, "breaker": over(made, ONE)})

    def test_errors(self):
        for name in CLASSES["errors"][1:]:
            error = getattr(errors, name)
            self.assertEqual(error.__bases__, (BreakError,))
        self.assertEqual(BreakError.__bases__, (ValueError,))


class Alone(unittest.TestCase):
    def test_each_module_is_imported_by_itself(self):
        for module in [*FUNCTIONS, "errors"]:
            done = subprocess.run([sys.executable, "-W", "error", "-c", f"import breakback.{module}"], cwd=ROOT,
                                  capture_output=True, text=True)
            self.assertEqual((done.returncode, done.stdout, done.stderr), (0, "", ""), module)

    def test_one_breaker_from_its_text_to_the_block(self):
        from breakback.breakers import read_breaker, write_breaker
        from breakback.chances import advantage, fraction, times
        from breakback.schemes import carried, check_carried, gain
        breaker = read_breaker("(ask (0 0) (ask (0 1) (say 1 0 b0)))")
        self.assertEqual(write_breaker(breaker), "(ask (0 0) (ask (0 1) (say 1 0 b0)))")
        goal = ("marks", ("tree", 2, ("cut", 2, ("longer", 3, BLOCK))))
        made, number = carried(goal, G, breaker)
        self.assertEqual(times(advantage(G, made), fraction(number, 1)), gain(goal, G, breaker))
        self.assertIs(check_carried(goal, G, breaker, made, number), True)
        self.assertEqual(say("1"), ONE)


if __name__ == "__main__":
    unittest.main()
