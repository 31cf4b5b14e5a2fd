"""Promise 20: built and check_goal, over schemes and goals that fit and over those that don't."""

import copy
import itertools
import unittest

from breakback.blocks import counter, cut, longer, tree
from breakback.errors import BadBlock, BadScheme, BreakError
from breakback.schemes import built, check_goal
from tests.model_schemes import goal_fits, goals_over, layer_of, some_schemes, table_of
from tests.samples import ATOMS, bends, function, generator, no_blocks, same_kinds, strings

BLOCK = ("block",)
BLOCKS = (generator(1, 1), generator(1, 2), generator(2, 3), generator(2, 4), generator(3, 2), generator(4, 8),
          function(1, 1, 1), function(2, 1, 2), function(2, 2, 3), function(3, 2, 4), function(4, 3, 1))
ONE_LAYER = ("longer", "tree", "counter", "cut")


def nest(layers, inner=BLOCK):
    """The scheme of these layers, the last one outside."""
    for name, number in layers:
        inner = (name, number, inner)
    return inner


def odd_values():
    """Values of many kinds, none of which is a goal, and of which next to none is a scheme."""
    yield from ATOMS
    for many in (1, 2, 3):
        for parts in itertools.product(ATOMS + (BLOCK, ["block"], "block", "longer", "tell"), repeat=many):
            if parts != BLOCK and parts != ("tell", BLOCK):
                yield parts
                if many < 3:
                    yield list(parts)


class Schemes(unittest.TestCase):
    def refused(self, scheme, block):
        with self.assertRaises(BadScheme) as caught:
            built(scheme, block)
        self.assertIsInstance(caught.exception, BreakError)

    def check(self, scheme, block):
        """What is built is what the scheme is told to build, and what is none is refused; whether it fits."""
        expected = table_of(scheme, block)
        if expected is None:
            self.refused(scheme, block)
        else:
            self.assertTrue(same_kinds(built(scheme, block), expected), scheme)
        return expected is not None

    def check_all(self, cases):
        """The schemes are as told; how many of them fit, and how many don't."""
        fitting = [self.check(scheme, block) for scheme, block in cases]
        return sum(fitting), len(fitting) - sum(fitting)


class Built(Schemes):
    def test_written_out(self):
        block = ("generator", 1, 2, ("01", "10"))
        self.assertEqual(built(BLOCK, block), block)
        self.assertEqual(built(("longer", 3, BLOCK), block), ("generator", 1, 4, ("1110", "0001")))
        self.assertEqual(built(("cut", 2, ("longer", 3, BLOCK)), block), ("generator", 1, 2, ("11", "00")))
        keyed = built(("tree", 2, BLOCK), block)
        self.assertEqual(keyed, ("function", 1, 2, 1, (("0", "1", "1", "0"), ("1", "0", "0", "1"))))
        self.assertEqual(built(("counter", 3, ("tree", 2, BLOCK)), block), ("generator", 1, 3, ("011", "100")))

    def test_a_block_is_built_by_no_layer(self):
        for block in BLOCKS:
            self.assertTrue(same_kinds(built(BLOCK, block), block))

    def test_each_layer_over_each_block(self):
        numbers = (-1, 0, 1, 2, 3, 4, 5, 8, 9, 20, 21, 40, 10 ** 30)
        fit, other = self.check_all([((name, number, BLOCK), block) for block in BLOCKS for name in ONE_LAYER
                                     for number in numbers])
        self.assertGreater(min(fit, other), 50)

    def test_each_layer_at_its_bounds(self):
        for name, number, block in (
                ("longer", 1, generator(3, 4)), ("longer", 20, generator(3, 4)), ("longer", 20, generator(10, 11)),
                ("tree", 8, generator(4, 8)), ("tree", 4, generator(8, 16)), ("tree", 1, generator(8, 16)),
                ("counter", 8, function(1, 3, 5)), ("counter", 4, function(2, 2, 10)), ("cut", 40, generator(1, 40))):
            self.assertTrue(self.check((name, number, BLOCK), block))
            self.refused((name, 0, BLOCK), block)
            self.refused((name, number + 20, BLOCK), block)
        for name, number, block in (
                ("longer", 21, generator(3, 4)), ("longer", 1, generator(3, 5)), ("longer", 1, generator(3, 3)),
                ("tree", 9, generator(2, 4)), ("tree", 5, generator(8, 16)), ("tree", 1, generator(9, 18)),
                ("tree", 1, generator(2, 3)), ("counter", 9, function(1, 3, 1)), ("counter", 5, function(1, 3, 9)),
                ("cut", 41, generator(1, 40)), ("cut", 4, generator(2, 3))):
            self.refused((name, number, BLOCK), block)

    def test_layers_in_one_another(self):
        for block in BLOCKS[:8]:
            for layers in (1, 2, 3):
                for scheme in some_schemes(block, layers, sizes=(1, 2, 4))[::layers]:
                    self.assertTrue(self.check(scheme, block))

    def test_layers_that_do_not_fit_in_one_another(self):
        cases = [(nest(((one, first), (two, second))), block) for block in BLOCKS[1:8] for one in ONE_LAYER
                 for two in ONE_LAYER for first in (1, 2, 3) for second in (0, 1, 2, 9)]
        fit, other = self.check_all(cases)
        self.assertGreater(min(fit, other), 80)

    def test_one_over_another_is_what_the_functions_build(self):
        block = generator(2, 4)
        scheme = nest((("cut", 3), ("longer", 6), ("cut", 4), ("tree", 5), ("counter", 20)))
        self.assertEqual(built(scheme, block), counter(tree(cut(longer(cut(block, 3), 6), 4), 5), 20))

    def test_the_table_is_that_of_the_scheme_inside(self):
        # longer takes tables from n to n + 1 bits: of one made so with 1 again, of one with 2 no more.
        block = generator(2, 3)
        self.assertTrue(self.check(nest((("longer", 1), ("longer", 20))), block))
        self.refused(nest((("longer", 2), ("longer", 1))), block)
        self.assertTrue(self.check(nest((("longer", 2), ("tree", 3))), block))
        self.refused(nest((("longer", 1), ("tree", 3))), block)
        self.refused(nest((("tree", 1), ("tree", 1))), generator(2, 4))
        self.refused(nest((("counter", 1), ("counter", 1))), function(1, 1, 1))

    def test_eight_deep_and_nine(self):
        self.assertTrue(self.check(nest([("cut", 2)] * 7), generator(1, 2)))
        self.refused(nest([("cut", 2)] * 8), generator(1, 2))
        self.assertTrue(self.check(nest([("longer", 1)] * 7), generator(2, 3)))
        self.refused(nest([("longer", 1)] * 8), generator(2, 3))
        mixed = [("tree", 2), ("counter", 3), ("cut", 2)] * 3
        for many in range(8):
            self.assertTrue(self.check(nest(mixed[:many]), generator(1, 2)), many)
        for many in (8, 9):
            self.refused(nest(mixed[:many]), generator(1, 2))

    def test_by_name(self):
        self.assertEqual(built(block=generator(2, 3), scheme=("longer", 4, BLOCK)), longer(generator(2, 3), 4))


class NoSchemes(Schemes):
    def test_values_of_many_kinds(self):
        for block in (generator(1, 2), function(1, 1, 1)):
            fit, other = self.check_all([(value, block) for value in odd_values()])
            self.assertLessEqual(fit, 2)
            self.assertGreater(other, 5000)
            self.check_all([(("cut", 1, value), block) for value in odd_values()])

    def test_names_and_numbers_that_are_none(self):
        block = generator(1, 2)
        for wrong in ("Longer", "long", "", "block", "tell", "once", "hardbits", None, 1, True, ("longer",), BLOCK):
            self.refused((wrong, 1, BLOCK), block)
        for name in ONE_LAYER:
            for wrong in (True, False, None, "1", "", (1,), [1], BLOCK, "01"):
                self.refused((name, wrong, BLOCK), block)
                self.refused((name, wrong, BLOCK), function(1, 1, 1))

    def test_each_place_bent(self):
        for scheme, block in (
                (BLOCK, generator(1, 2)), (("longer", 3, BLOCK), generator(2, 3)),
                (("tree", 2, BLOCK), generator(2, 4)), (("counter", 2, BLOCK), function(2, 1, 2)),
                (("cut", 2, BLOCK), generator(2, 3)),
                (nest((("longer", 1), ("tree", 2), ("counter", 4), ("cut", 3))), generator(1, 2))):
            fit, other = self.check_all([(bent, block) for bent in bends(scheme)])
            self.assertGreater(other, 40)

    def test_parts_left_out_doubled_and_moved(self):
        block = generator(1, 2)
        for value in (("longer", BLOCK), ("longer", 1), ("longer",), ("longer", 1, 1, BLOCK),
                      ("longer", 1, BLOCK, BLOCK), ("longer", BLOCK, 1), (1, "longer", BLOCK), (BLOCK,),
                      (BLOCK, BLOCK), ("block", "block"), ("block", BLOCK), ("block", 1, BLOCK), ["block"],
                      ["longer", 1, BLOCK], ("longer", 1, ["block"]), ("longer", 1, "block"),
                      ("longer", 1, ()), ("longer", 1, None), "block", "longer"):
            self.refused(value, block)

    def test_very_deep_values(self):
        deep, pairs = BLOCK, ()
        for _ in range(100000):
            deep, pairs = ("cut", 1, deep), (pairs,)
        for value in (deep, pairs, ("cut", 1, pairs), ("cut", pairs, BLOCK), (pairs, 1, BLOCK)):
            self.refused(value, generator(1, 2))
            with self.assertRaises(BadScheme):
                check_goal(("tell", value), generator(1, 2))
            with self.assertRaises(BadScheme):
                check_goal(value, generator(1, 2))

    def test_what_is_no_block_comes_first(self):
        for value in itertools.islice(no_blocks(), 0, None, 7):
            for scheme in (BLOCK, ("longer", 1, BLOCK), None, (), ["block"], nest([("cut", 1)] * 9)):
                with self.assertRaises(BadBlock):
                    built(scheme, value)
                for goal in (("tell", scheme), ("tell",), None, scheme):
                    with self.assertRaises(BadBlock):
                        check_goal(goal, value)

    def test_no_block_is_modified(self):
        for block in BLOCKS[:8]:
            before = copy.deepcopy(block)
            for scheme in [*some_schemes(block, 2), None, ("cut", 99, BLOCK)]:
                held = copy.deepcopy(scheme)
                self.check(scheme, block)
                self.check(scheme, block)
                self.assertTrue(same_kinds(scheme, held))
            self.assertTrue(same_kinds(block, before))


class Goals(unittest.TestCase):
    def check(self, goal, block):
        """A goal that fits is let pass, another one is refused; whether it fits."""
        fits = goal_fits(goal, block)
        if fits:
            self.assertIsNone(check_goal(goal, block), goal)
        else:
            with self.assertRaises(BadScheme, msg=goal):
                check_goal(goal, block)
        return fits

    def test_each_goal_over_tables_that_fit(self):
        for block in BLOCKS[:8]:
            for layers in (0, 1, 2):
                for scheme in some_schemes(block, layers, sizes=(1, 2)):
                    for goal in goals_over(scheme, block):
                        self.assertTrue(self.check(goal, block), goal)

    def test_each_goal_over_tables_of_the_other_kind(self):
        for block, scheme in ((generator(1, 2), BLOCK), (function(2, 1, 2), ("counter", 2, BLOCK)),
                              (generator(1, 2), ("longer", 2, BLOCK)), (generator(2, 4), ("cut", 2, BLOCK))):
            for goal in (("marks", scheme), ("secrets", scheme)):
                self.assertFalse(self.check(goal, block))
            self.assertTrue(self.check(("tell", scheme), block))
        for block, scheme in ((function(2, 1, 2), BLOCK), (generator(1, 2), ("tree", 2, BLOCK)),
                              (generator(2, 3), ("tree", 1, ("longer", 2, BLOCK)))):
            for goal in (("once", scheme), ("next", scheme), ("opening", "00", scheme), ("opening", "0", scheme)):
                self.assertFalse(self.check(goal, block))
            self.assertTrue(self.check(("tell", scheme), block))

    def test_strings_of_opening(self):
        block = generator(2, 3)
        for scheme, m in ((BLOCK, 3), (("longer", 2, BLOCK), 4), (("cut", 1, BLOCK), 1)):
            for length in range(6):
                for r in strings(length):
                    self.assertEqual(self.check(("opening", r, scheme), block), length == m)
            right = "0" * m
            for wrong in (None, 0, 1, True, "2" + right[1:], right[1:] + "b", right + " ", " " + right[1:], (right,),
                          tuple(right), list(right), [right], "-" + right[1:], "\u0661" + right[1:], "0b" + right[2:],
                          BLOCK):
                self.assertFalse(self.check(("opening", wrong, scheme), block))

    def test_both_wrong_at_once(self):
        block = generator(1, 2)
        for goal in (("opening", "000", ("cut", 3, BLOCK)), ("opening", None, None), ("marks", ("cut", 3, BLOCK)),
                     ("open", ("longer", 0, BLOCK)), ("opening", "00", ("tree", 2, BLOCK)), ("next", ["block"])):
            self.assertFalse(self.check(goal, block))

    def test_what_is_no_goal(self):
        for value in odd_values():
            for block in (generator(1, 2), function(1, 1, 1)):
                self.assertFalse(self.check(value, block))
        for name in ("tells", "Tell", "", "generator", "hard", "guess", "onetime", "block", "longer", None, 1, True):
            for block in (generator(1, 2), function(1, 1, 1)):
                self.assertFalse(self.check((name, BLOCK), block))
                self.assertFalse(self.check((name, "00", BLOCK), block))
                self.assertFalse(self.check((name, 1, BLOCK), block))

    def test_each_place_bent(self):
        for block, scheme in ((generator(1, 2), ("longer", 2, BLOCK)), (function(1, 1, 1), BLOCK)):
            for goal in goals_over(scheme, block):
                found = [self.check(bent, block) for bent in bends(goal)]
                self.assertGreater(found.count(False), 50)

    def test_parts_left_out_and_doubled(self):
        block = generator(1, 2)
        for value in (("tell",), ("tell", BLOCK, BLOCK), ("tell", "00", BLOCK), ("opening", BLOCK), ("opening", "00"),
                      ("opening", BLOCK, "00"), ("opening", "00", "00", BLOCK), ("opening", "00", BLOCK, BLOCK),
                      ("once", 1, BLOCK), (BLOCK, "tell"), BLOCK, ("longer", 1, BLOCK), ["tell", BLOCK], "tell",
                      ("tell", list(BLOCK)), ("tell", ("tell", BLOCK)), ("next", True, BLOCK)):
            self.assertFalse(self.check(value, block))

    def test_the_depth_counts_without_the_goal(self):
        block = generator(1, 2)
        for many, fits in ((7, True), (8, False)):
            scheme = nest([("cut", 2)] * many)
            for goal in (("tell", scheme), ("once", scheme), ("opening", "10", scheme), ("next", scheme)):
                self.assertEqual(self.check(goal, block), fits)

    def test_by_name(self):
        self.assertIsNone(check_goal(block=generator(1, 2), goal=("next", BLOCK)))

    def test_the_layers_told_here_are_those_of_the_program(self):
        self.assertEqual(layer_of("longer", 3, generator(2, 3)), longer(generator(2, 3), 3))
        self.assertEqual(layer_of("tree", 3, generator(2, 4)), tree(generator(2, 4), 3))
        self.assertEqual(layer_of("counter", 3, function(1, 2, 3)), counter(function(1, 2, 3), 3))
        self.assertEqual(layer_of("cut", 3, generator(2, 4)), cut(generator(2, 4), 3))


if __name__ == "__main__":
    unittest.main()
