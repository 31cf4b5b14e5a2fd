"""Promise 21: carried, part by part, and check_carried."""

import copy
import unittest

from breakback.blocks import counter, cut, longer, tree
from breakback.breakers import check_breaker, most_asks, read_breaker
from breakback.chances import advantage
from breakback.errors import BadBlock, BadBreaker, BadScheme, TooMany
from breakback.games import play
from breakback.schemes import built, carried, check_carried, gain
from tests import model
from tests.model_schemes import asks_of, carry, gain_and_ways, goals_over, some_schemes
from tests.sample_attacks import SMALL, attacks, tries
from tests.sample_breakers import MADE, ONE, ZERO, ask, deep, look, over, say, toss
from tests.samples import function, generator, same_kinds

BLOCK = ("block",)
G12, G24, F212 = generator(1, 2), generator(2, 4), function(2, 1, 2)
TWO, THREE = ask("00", ask("01", ONE)), ask("00", ask("01", ask("10", ONE)))


class Carried(unittest.TestCase):
    def check(self, goal, block, breaker):
        found = carried(goal, block, breaker)
        self.assertTrue(same_kinds(found, carry(goal, block, breaker)), (goal, block, breaker))
        self.assertIsNone(check_breaker(found[0]))
        self.assertGreater(found[1], 0)
        return found


class Pairs(Carried):
    def test_each_goal_over_the_block_alone(self):
        inner = look(0, ONE, ZERO)
        for goal, block, made, number in (
                ("tell", G12, inner, 1), ("tell", F212, inner, 1),
                ("marks", F212, ("marks", 1, 2, inner), 1), ("secrets", F212, ("secrets", 1, 2, inner), 2),
                ("once", G24, ("once", 4, inner), 2), ("next", G24, ("guess", 4, inner), 1)):
            self.assertEqual(carried((goal, BLOCK), block, inner), (made, number))
            self.check((goal, BLOCK), block, inner)
        self.assertEqual(carried(("opening", "0110", BLOCK), G24, inner), (("opening", "0110", inner), 2))

    def test_each_layer(self):
        for scheme, block, made, number in (
                (("longer", 5, BLOCK), G12, ("longer", G12, 5, ONE), 5),
                (("longer", 1, BLOCK), G12, ("longer", G12, 1, ONE), 1),
                (("counter", 2, BLOCK), F212, ("counter", 1, 2, 2, ONE), 1),
                (("cut", 3, BLOCK), G24, ("cut", 3, ONE), 1)):
            self.assertEqual(carried(("tell", scheme), block, ONE), (made, number))

    def test_trees_count_their_places(self):
        # Of level j there are 2^j places, of which no more are drawn than there are asks.
        for d, breaker, q, number in ((1, ONE, 1, 1), (3, ONE, 1, 3), (2, TWO, 2, 3), (3, TWO, 2, 5), (4, TWO, 2, 7),
                                      (4, THREE, 3, 9), (8, THREE, 3, 21), (8, deep(60), 59, 63 + 59 + 59)):
            goal = ("tell", ("tree", d, BLOCK))
            self.assertEqual(carried(goal, G24, breaker), (("tree", G24, d, q, breaker), number))
            self.check(goal, G24, breaker)

    def test_the_asks_are_those_of_the_breaker_that_is_led_on(self):
        scheme = ("tree", 3, BLOCK)
        self.assertEqual(carried(("tell", scheme), G24, TWO)[0], ("tree", G24, 3, 2, TWO))
        self.assertEqual(carried(("marks", scheme), G24, TWO), (("tree", G24, 3, 3, ("marks", 3, 2, TWO)), 6))
        self.assertEqual(carried(("marks", scheme), G24, ONE), (("tree", G24, 3, 1, ("marks", 3, 2, ONE)), 3))
        self.assertEqual(carried(("secrets", scheme), G24, TWO), (("tree", G24, 3, 2, ("secrets", 3, 2, TWO)), 10))
        self.assertEqual(carried(("secrets", scheme), G24, ZERO), (("tree", G24, 3, 1, ("secrets", 3, 2, ZERO)), 6))
        # counter asks as often as it is told, whatever its inner one does.
        inner = ("counter", 3, 4, 2, THREE)
        self.assertEqual(carried(("tell", ("counter", 4, scheme)), G24, THREE), (("tree", G24, 3, 4, inner), 7))
        inner = ("counter", 3, 3, 2, ("cut", 5, ("once", 5, TWO)))
        goal = ("once", ("cut", 5, ("counter", 3, scheme)))
        self.assertEqual(carried(goal, G24, TWO), (("tree", G24, 3, 3, inner), 12))

    def test_layers_over_one_another(self):
        scheme = ("longer", 3, BLOCK)
        self.assertEqual(carried(("once", ("cut", 2, scheme)), G12, ONE),
                         (("longer", G12, 3, ("cut", 2, ("once", 2, ONE))), 6))
        doubled = longer(G12, 1)
        self.assertEqual(carried(("tell", ("longer", 4, ("longer", 1, BLOCK))), G12, ONE),
                         (("longer", G12, 1, ("longer", doubled, 4, ONE)), 4))
        names = tree(G12, 2)
        self.assertEqual(
            carried(("next", ("longer", 5, ("cut", 2, ("counter", 4, ("tree", 2, BLOCK))))), G12, ZERO),
            (("tree", G12, 2, 4, ("counter", 2, 4, 1, ("cut", 2, ("longer", cut(counter(names, 4), 2), 5,
                                                                  ("guess", 6, ZERO))))), 15))

    def test_a_tree_over_a_tree(self):
        # The table of each tree is what its own inner scheme builds, and so is the number of asks.
        inner = ("cut", 2, ("counter", 3, ("tree", 2, BLOCK)))
        streams = built(inner, G12)
        breaker = ask("000", ask("111", say("1")))
        self.assertEqual(
            carried(("marks", ("tree", 3, inner)), G12, breaker),
            (("tree", G12, 2, 3, ("counter", 2, 3, 1, ("cut", 2, ("tree", streams, 3, 3,
                                                                    ("marks", 3, 1, breaker))))), 3 * 6))

    def test_many_goals_over_many_schemes(self):
        seen = 0
        for block in SMALL:
            for layers in (0, 1, 2, 3):
                for scheme in some_schemes(block, layers, sizes=(1, 2, 3))[::layers or 1]:
                    for goal in goals_over(scheme, block):
                        for breaker in tries(goal, block, drawn=1, keen=slice(1, None, 3)):
                            self.check(goal, block, breaker)
                            seen += 1
        self.assertGreater(seen, 1000)

    def test_eight_deep(self):
        scheme = BLOCK
        for name, size in (("tree", 2), ("counter", 3), ("cut", 2), ("tree", 3), ("counter", 8), ("cut", 2),
                           ("longer", 20)):
            scheme = (name, size, scheme)
        for goal in goals_over(scheme, G12):
            made, number = self.check(goal, G12, look(0, ONE, toss(ONE, ZERO)))
            self.assertEqual(number, (2 if goal[0] in ("once", "opening") else 1) * 3 * 7 * 20)
            for choices in ((), (1,) * 40, (1, 2, 1, 2, 0, 1, 1), (0, 2, 6, 19)):
                self.same_plays(("generator", G12, True), made, choices)

    def same_plays(self, game, made, choices):
        """A play of the made one is as the other telling has it, choices that are too large being left at 0."""
        fitting = []
        for choice in choices:
            drawn = model.play(game, made, fitting)[2]
            fitting.append(choice if len(drawn) > len(fitting) and choice < drawn[len(fitting)][1] else 0)
        found = play(game, made, fitting)
        self.assertEqual((found.outcome, found.said, found.draws, found.asked), model.play(game, made, fitting))

    def test_counters_of_256_asks(self):
        block = ("generator", 1, 2, ("01", "10"))
        self.check(("tell", ("counter", 40, ("tree", 8, BLOCK))), block, ONE)
        wide = function(2, 8, 1)
        self.check(("tell", ("counter", 40, BLOCK)), wide, ONE)

    def test_breakers_of_texts(self):
        text = "(ask (0 1 1) (ask (b0 b1 0) (look 2 (say 1 1 1 b2 b3) (toss (say 0 0 0 b0 b1) (say)))))"
        for goal in (("marks", ("tree", 3, BLOCK)),
                     ("tell", ("tree", 3, ("cut", 4, ("longer", 3, ("cut", 3, BLOCK)))))):
            breaker = read_breaker(text)
            made, number = self.check(goal, G24, breaker)
            self.assertEqual(carried(goal, G24, read_breaker(text)), (made, number))

    def test_by_name(self):
        self.assertEqual(carried(breaker=ONE, block=G12, goal=("next", BLOCK)), (("guess", 2, ONE), 1))

    def test_most_asks_told_here_are_those_of_the_program(self):
        for _, goal, breaker in attacks(SMALL, 1, drawn=1, keen=slice(None, None, 4)):
            for made in (breaker, ("marks", 2, 1, breaker), ("secrets", 2, 1, breaker), ("cut", 2, breaker),
                         ("counter", 2, 3, 1, breaker), ("marks", 1, 1, ("secrets", 1, 1, breaker))):
                self.assertEqual(most_asks(made), asks_of(made))


class Order(unittest.TestCase):
    def test_block_then_goal_then_breaker(self):
        no_block, no_goal, none = ("generator", 1, 2, ()), ("tell", ("cut", 9, BLOCK)), ("say", "1")
        for wrong in (no_goal, ("tell", BLOCK), None):
            for breaker in (none, ONE, over(MADE[0], ONE)):
                with self.assertRaises(BadBlock):
                    carried(wrong, no_block, breaker)
                with self.assertRaises(BadBlock):
                    check_carried(wrong, no_block, breaker, None, 1, most=1)
        for breaker in (none, ONE, None, over(MADE[0], ONE)):
            for wrong in (no_goal, None, ("marks", BLOCK), ("opening", "0", BLOCK), ["tell", BLOCK],
                          ("tell", ["block"])):
                with self.assertRaises(BadScheme):
                    carried(wrong, G12, breaker)
                with self.assertRaises(BadScheme):
                    check_carried(wrong, G12, breaker, None, 1, most=1)

    def test_breakers_that_are_made_or_none(self):
        for breaker in (("say", "1"), None, [], (), "say", 1, True, ["say", ()], ("toss", ()),
                        ("look", 10000, ONE, ONE), deep(61), *[over(made, ONE) for made in MADE], over(MADE[0], None),
                        ("longer", G12, 0, ONE), ("cut", 2, ONE), ("longer", G12, 1, ONE)):
            for goal in (("tell", BLOCK), ("once", BLOCK), ("tell", ("longer", 2, BLOCK)),
                         ("tell", ("tree", 1, BLOCK))):
                with self.assertRaises(BadBreaker):
                    carried(goal, G12, breaker)
                with self.assertRaises(BadBreaker):
                    check_carried(goal, G12, breaker, ONE, 1, most=1)

    def test_made_comes_behind_the_breaker_and_ahead_of_the_chances(self):
        for made in (("say", "1"), None, (), [], ("longer", G12, 0, ONE), ("cut", 2, None), ("cut", True, ONE),
                     deep(61)):
            with self.assertRaises(BadBreaker):
                check_carried(("tell", BLOCK), G12, ONE, made, 1, most=1)
            with self.assertRaises(BadBreaker):
                check_carried(("tell", BLOCK), G12, ONE, made, 1)
        for made in (ONE, ("cut", 2, ONE), over(("longer", G12, 3), ONE)):
            with self.assertRaises(TooMany):
                check_carried(("tell", BLOCK), G12, ONE, made, 1, most=1)


class Checked(unittest.TestCase):
    def test_true_for_the_pair_that_is_carried(self):
        seen = wrong = 0
        for layers, every in ((0, 1), (1, 2), (2, 6)):
            for block, goal, breaker in attacks(SMALL, layers, drawn=1, every=every, keen=slice(None, None, 3)):
                made, number = carried(goal, block, breaker)
                try:
                    self.assertIs(check_carried(goal, block, breaker, made, number, most=1500), True)
                except TooMany:
                    continue
                seen += 1
                if gain(goal, block, breaker)[0] != 0:
                    wrong += 1
                    for other in (number + 1, number - 1, -number, 0, 2 * number):
                        self.assertIs(check_carried(goal, block, breaker, made, other), False)
                else:
                    for other in (number + 1, 0, -5):
                        self.assertIs(check_carried(goal, block, breaker, made, other), True)
        self.assertGreater(seen, 400)
        self.assertGreater(wrong, 150)

    def test_another_breaker_of_the_block_s_game(self):
        block = ("generator", 1, 2, ("01", "10"))
        same, unlike = [look(0, look(1, one, other), look(1, other, one)) for one, other in ((ONE, ZERO), (ZERO, ONE))]
        goal = ("tell", ("cut", 2, ("longer", 1, BLOCK)))
        first = ("say", (0,))
        made, number = carried(goal, block, unlike)
        found = gain(goal, block, unlike)
        for other in (same, unlike, first, ONE, ("cut", 2, same), ("longer", block, 1, first), ("guess", 2, unlike),
                      ("once", 2, ask("0001", same)), made):
            expected = advantage(block, other)
            for times in (-2, -1, 0, 1, 2, 3):
                told = expected[0] * times * found[1] == found[0] * expected[1]
                self.assertIs(check_carried(goal, block, unlike, other, times), told)
        self.assertEqual(number, 1)

    def test_of_functions(self):
        goal = ("tell", ("counter", 2, BLOCK))
        block = ("function", 1, 1, 1, (("0", "0"), ("1", "1")))
        same = look(0, look(1, ONE, ZERO), look(1, ZERO, ONE))
        plain = ask("0", ask("1", same))
        self.assertEqual(gain(goal, block, same), (1, 2))
        self.assertIs(check_carried(goal, block, same, plain, 1), True)
        self.assertIs(check_carried(goal, block, same, ("counter", 1, 2, 1, same), 1), True)
        self.assertIs(check_carried(goal, block, same, plain, 2), False)
        self.assertIs(check_carried(goal, block, same, ask("0", plain), 1), False)
        self.assertIs(check_carried(goal, block, same, ONE, 1), False)

    def test_numbers_of_any_size(self):
        block = ("generator", 1, 2, ("01", "10"))
        same = look(0, look(1, ONE, ZERO), look(1, ZERO, ONE))
        for number in (10 ** 30, -10 ** 30):
            self.assertIs(check_carried(("tell", BLOCK), block, same, same, number), False)
            self.assertIs(check_carried(("tell", BLOCK), block, ONE, ZERO, number), True)

    def test_each_chance_has_the_bound_of_its_own(self):
        block = ("generator", 2, 2, ("00",) * 4)
        many = toss(*[ONE, ZERO] * 32)
        goal = ("tell", BLOCK)
        # The two of made's advantage: with rows that are noughts it has the more ways at first, then the fewer.
        for made, ways in ((look(0, look(1, many, ZERO), ZERO), (256, 67)), (look(0, ZERO, many), (4, 130)),
                           (("cut", 1, look(0, many, ZERO)), (256, 130)), (("cut", 1, look(0, ZERO, many)), (4, 130))):
            for most in (max(ways), max(ways) + 1):
                self.assertIs(check_carried(goal, block, ONE, made, 1, most=most), advantage(block, made) == (0, 1))
            for most in (max(ways) - 1, min(ways), 4):
                with self.assertRaises(TooMany):
                    check_carried(goal, block, ONE, made, 1, most=most)
        # Those of the gain are tried in test_gain; here made has fewer.
        expected, ways = gain_and_ways(goal, block, look(0, ZERO, many))
        self.assertIs(check_carried(goal, block, look(0, ZERO, many), ONE, 1, most=max(ways)), expected == 0)
        with self.assertRaises(TooMany):
            check_carried(goal, block, look(0, ZERO, many), ONE, 1, most=max(ways) - 1)

    def test_the_most_is_300000_if_none_is_told(self):
        self.assertIs(check_carried(("next", BLOCK), generator(1, 14), ONE, ("guess", 14, ONE), 1), True)
        with self.assertRaises(TooMany):
            check_carried(("next", BLOCK), generator(1, 15), ONE, ("guess", 15, ONE), 1)

    def test_by_name(self):
        self.assertIs(check_carried(most=4, number=3, made=ZERO, breaker=ONE, block=G12, goal=("tell", BLOCK)), True)
        with self.assertRaises(TypeError):
            check_carried(("tell", BLOCK), G12, ONE, ONE, 1, 8)

    def test_nothing_is_modified(self):
        for goal in goals_over(("cut", 2, ("longer", 2, BLOCK)), G12):
            for breaker in tries(goal, G12, drawn=1, keen=slice(3)):
                handed = (goal, G12, breaker)
                before = copy.deepcopy(handed)
                made, number = carried(*handed)
                kept = copy.deepcopy(made)
                first = gain(*handed)
                self.assertIs(check_carried(*handed, made, number), True)
                self.assertTrue(same_kinds(handed, before))
                self.assertTrue(same_kinds(made, kept))
                self.assertTrue(same_kinds((carried(*handed), gain(*handed)), ((kept, number), first)))


if __name__ == "__main__":
    unittest.main()
