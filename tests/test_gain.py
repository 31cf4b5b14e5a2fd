"""Promise 21: gain, against a count of all rows of choices; and the bound on the ways of each chance."""

import itertools
import unittest

from breakback.blocks import longer, tree
from breakback.breakers import read_breaker
from breakback.chances import ways
from breakback.errors import BadBlock, BadBreaker, BadScheme, TooMany
from breakback.schemes import check_carried, gain
from tests.model_schemes import gain_and_ways, games_of
from tests.sample_attacks import SMALL, attacks
from tests.sample_breakers import MADE, ONE, ZERO, ask, look, over, say, toss
from tests.samples import generator

BLOCK = ("block",)
MANY = toss(*[ONE, ZERO] * 32)


def pair(number):
    return (number.numerator, number.denominator)


def few_ways(goal, block, breaker, most):
    """Whether none of the chances of a gain has more than so many ways."""
    try:
        return all(ways(game, breaker, most=most) for game, _ in games_of(goal, block))
    except TooMany:
        return False


class Gains(unittest.TestCase):
    def check(self, goal, block, breaker):
        expected, many = gain_and_ways(goal, block, breaker)
        found = gain(goal, block, breaker, most=max(many))
        self.assertEqual(found, pair(expected), (goal, block, breaker))
        self.assertEqual([type(found), type(found[0]), type(found[1])], [tuple, int, int])
        if max(many) > 1:
            with self.assertRaises(TooMany):
                gain(goal, block, breaker, most=max(many) - 1)
        return expected != 0

    def test_written_out(self):
        block = ("generator", 1, 2, ("01", "10"))
        same = look(0, look(1, ONE, ZERO), look(1, ZERO, ONE))
        self.assertEqual(gain(("tell", BLOCK), block, same), (-1, 2))
        # The second bit is the other one always; the first one is any.
        other = look(0, look(1, ZERO, ONE), ("say", ("0",)))
        self.assertEqual(gain(("next", BLOCK), block, other), (1, 4))
        self.assertEqual(gain(("next", BLOCK), block, ONE), (0, 1))
        # Of unlike bits the xor with 01 makes like ones.
        self.assertEqual(gain(("opening", "01", BLOCK), block, same), (1, 1))
        self.assertEqual(gain(("opening", "11", BLOCK), block, same), (0, 1))
        self.assertEqual(gain(("once", BLOCK), block, ask("0001", same)), (1, 1))
        self.assertEqual(gain(("once", BLOCK), block, ask("0100", same)), (-1, 1))
        # Both labels below a root that is 0 are 1 and 0, below one that is 1 they are 0 and 1.
        halves = ("generator", 1, 2, ("10", "01"))
        self.assertEqual(gain(("marks", ("tree", 1, BLOCK)), halves, ask("0", look(0, say("11"), say("10")))), (1, 2))
        self.assertEqual(gain(("marks", ("tree", 1, BLOCK)), halves, ask("0", look(0, say("10"), say("11")))), (-1, 2))
        self.assertEqual(gain(("marks", ("tree", 1, BLOCK)), halves, ask("0", say("01"))), (0, 1))
        # Where the value is 0 always, the message is seen.
        nought = ("function", 1, 1, 1, (("0", "0"), ("0", "0")))
        self.assertEqual(gain(("secrets", BLOCK), nought, ask("01", ("say", (1,)))), (1, 1))
        self.assertEqual(gain(("secrets", BLOCK), nought, ask("10", ("say", (1,)))), (-1, 1))

    def test_what_chance_gains_is_taken_off(self):
        # In a game any two asks meet in the same string half the time: that much is told apart there, too.
        nought = ("function", 1, 1, 1, (("0", "0"), ("0", "0")))
        meeting = ask("00", ask("01", look(0, look(2, look(1, look(3, ZERO, ONE), look(3, ONE, ZERO)), ZERO),
                                           look(2, ZERO, look(1, look(3, ZERO, ONE), look(3, ONE, ZERO))))))
        self.assertEqual(gain(("secrets", BLOCK), nought, meeting), (0, 1))
        self.assertEqual(gain(("marks", BLOCK), nought, say("00")), (1, 2))
        self.assertEqual(gain(("marks", BLOCK), nought, say("01")), (-1, 2))

    def test_each_goal_against_a_count(self):
        seen = 0
        for block, goal, breaker in attacks(SMALL, 0, drawn=4):
            if few_ways(goal, block, breaker, 1500):
                seen += self.check(goal, block, breaker)
        self.assertGreater(seen, 90)

    def test_goals_over_layers_against_a_count(self):
        seen = 0
        for layers, every in ((1, 2), (2, 5), (3, 17)):
            for block, goal, breaker in attacks(SMALL, layers, drawn=1, every=every, keen=slice(None, None, 3)):
                if few_ways(goal, block, breaker, 400):
                    seen += self.check(goal, block, breaker)
        self.assertGreater(seen, 120)

    def test_breakers_of_texts(self):
        block = generator(2, 4)
        scheme = ("tree", 2, BLOCK)
        for goal, text in ((("tell", scheme), "(ask (0 1) (ask (b0 b1) (look 2 (say 1) (look 0 (say) (say b3)))))"),
                           (("marks", scheme), " (ask (0 0)(say 1 1 b0 b1) )"),
                           (("secrets", scheme), "(toss (ask (0 0 1 1) (say b2)) (say 1))")):
            self.check(goal, block, read_breaker(text))

    def test_by_name(self):
        same = look(0, look(1, ONE, ZERO), look(1, ZERO, ONE))
        block = ("generator", 1, 2, ("01", "10"))
        self.assertEqual(gain(most=4, breaker=same, block=block, goal=("tell", BLOCK)), (-1, 2))
        with self.assertRaises(TypeError):
            gain(("tell", BLOCK), block, same, 4)

    def test_the_most_is_300000_if_none_is_told(self):
        block = generator(1, 18)
        self.assertEqual(gain(("tell", BLOCK), block, ONE), (0, 1))
        with self.assertRaises(TooMany):
            gain(("tell", ("longer", 18, BLOCK)), generator(1, 2), ONE)
        with self.assertRaises(TooMany):
            gain(("tell", BLOCK), block, ONE, most=(1 << 18) - 1)


# For each goal a block and breakers such that each of its chances has the most ways for one of them.
EQUAL_TWICE = look(0, look(2, look(1, look(3, MANY, ZERO), look(3, ZERO, MANY)), ZERO),
                   look(2, ZERO, look(1, look(3, MANY, ZERO), look(3, ZERO, MANY))))
UNLIKE_TWICE = look(0, look(2, look(1, look(3, ZERO, MANY), look(3, MANY, ZERO)), ZERO),
                    look(2, ZERO, look(1, look(3, ZERO, MANY), look(3, MANY, ZERO))))
NOUGHT, NOUGHTS = ("generator", 2, 2, ("00",) * 4), ("function", 1, 1, 1, (("0", "0"), ("0", "0")))
WHOLE = look(0, look(1, MANY, ZERO), ZERO), look(0, ZERO, look(1, ZERO, MANY)), look(0, ZERO, look(1, MANY, ZERO))
GREATEST = (
    (("tell", BLOCK), NOUGHT, WHOLE),
    (("tell", BLOCK), NOUGHTS, (ask("0", look(0, MANY, ZERO)), ask("0", look(0, ZERO, MANY)))),
    (("marks", BLOCK), NOUGHTS, (ask("0", look(0, MANY, ZERO)), ask("0", look(0, ZERO, MANY)))),
    (("once", BLOCK), NOUGHT, [ask("0011", after) for after in WHOLE]),
    (("opening", "11", BLOCK), NOUGHT, WHOLE),
    (("secrets", BLOCK), NOUGHTS, (ask("01", look(1, MANY, ZERO)), ask("01", look(1, ZERO, MANY)),
                                   ask("00", ask("01", EQUAL_TWICE)), ask("00", ask("01", UNLIKE_TWICE)))),
    (("next", BLOCK), NOUGHT, WHOLE[:1]),
)


class Bounds(unittest.TestCase):
    def test_each_chance_has_the_bound_of_its_own(self):
        greatest = set()
        for goal, block, tried in GREATEST:
            for breaker in tried:
                expected, many = gain_and_ways(goal, block, breaker)
                greatest |= {(goal[0], block[0], at) for at, ways_of in enumerate(many) if ways_of == max(many)}
                if many.count(max(many)) == 1:
                    greatest.add((goal[0], block[0], "alone", many.index(max(many))))
                self.assertEqual(gain(goal, block, breaker, most=max(many)), pair(expected))
                for most in (max(many) - 1, 1):
                    with self.assertRaises(TooMany):
                        gain(goal, block, breaker, most=most)
                    with self.assertRaises(TooMany):
                        check_carried(goal, block, breaker, ONE, 1, most=most)
        for name, kind, many in (("tell", "generator", 2), ("tell", "function", 2), ("marks", "function", 2),
                                 ("secrets", "function", 4)):
            self.assertLessEqual({(name, kind, "alone", at) for at in range(many)}, greatest)
        # With any string in the row's place both bits have as many ways, as all strings come as often.
        for name in ("once", "opening"):
            self.assertLessEqual({(name, "generator", "alone", at) for at in (0, 1)}, greatest)
            self.assertLessEqual({(name, "generator", at) for at in (2, 3)}, greatest)

    def test_next_takes_no_chance_but_that_with_true(self):
        # Any string has 2^m ways for each place, a row only as many as there are seeds.
        block = generator(1, 12)
        expected, many = gain_and_ways(("next", BLOCK), block, ONE)
        self.assertEqual(many, [24])
        self.assertEqual(gain(("next", BLOCK), block, ONE, most=24), pair(expected))
        with self.assertRaises(TooMany):
            gain(("next", BLOCK), block, ONE, most=23)
        self.assertEqual(ways(("next", block, False), ONE), 12 << 12)

    def test_ways_over_what_is_built(self):
        scheme = ("longer", 3, BLOCK)
        self.assertEqual(gain(("tell", scheme), generator(1, 2), ONE, most=16), (0, 1))
        with self.assertRaises(TooMany):
            gain(("tell", scheme), generator(1, 2), ONE, most=15)
        self.assertEqual(ways(("generator", longer(generator(1, 2), 3), False), ONE), 16)


class Order(unittest.TestCase):
    def test_block_then_goal_then_breaker_then_most(self):
        no_block, no_goal, none = ("generator", 1, 2, ()), ("tell", ("cut", 9, BLOCK)), ("say", "1")
        block, goal = generator(1, 2), ("tell", BLOCK)
        for wrong in (no_goal, goal, None, ("marks", BLOCK)):
            for breaker in (none, ONE, None):
                with self.assertRaises(BadBlock):
                    gain(wrong, no_block, breaker, most=1)
        for breaker in (none, ONE, None, over(MADE[0], ONE), []):
            for wrong in (no_goal, None, ("marks", BLOCK), ("opening", "0", BLOCK), ["tell", BLOCK]):
                with self.assertRaises(BadScheme):
                    gain(wrong, block, breaker, most=1)
        for breaker in (none, None, [], (), ("toss", ()), *[over(made, ONE) for made in MADE],
                        over(MADE[0], none), ("longer", block, 0, ONE)):
            with self.assertRaises(BadBreaker):
                gain(goal, block, breaker, most=1)
        with self.assertRaises(TooMany):
            gain(goal, block, ONE, most=1)

    def test_made_breakers_of_the_right_game_are_refused_too(self):
        block = generator(1, 2)
        for scheme, breaker in ((BLOCK, ("cut", 2, ONE)), (BLOCK, ("longer", block, 1, ONE)),
                                (("tree", 2, BLOCK), ("marks", 2, 1, say("000"))),
                                (("tree", 2, BLOCK), ("counter", 2, 2, 1, ONE))):
            with self.assertRaises(BadBreaker):
                gain(("tell", scheme), block, breaker)

    def test_a_tree_s_marks(self):
        block = generator(1, 2, "third")
        for x, y in itertools.product(("00", "01", "10", "11"), repeat=2):
            found = gain(("marks", ("tree", 2, BLOCK)), block, ask(x, ("say", (*y, 0))))
            values = tree(block, 2)[4]
            real = [0 if x == y else int(table[int(x, 2)] == table[int(y, 2)]) for table in values]
            self.assertEqual(found[0] * 4, (2 * sum(real) - (0 if x == y else 2)) * found[1])


if __name__ == "__main__":
    unittest.main()
