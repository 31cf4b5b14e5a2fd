"""Promise 26: the best breakers of small blocks."""

import itertools
import random
import unittest
from fractions import Fraction

from breakback.best import best
from breakback.breakers import check_breaker, is_plain, most_asks
from breakback.chances import advantage
from breakback.errors import BadBlock, BadChoice
from breakback.schemes import built
from tests.model_schemes import some_schemes
from tests.sample_breakers import KEEN, MADE, ONE, ask, breakers, over, say, some_plain
from tests.samples import every_generator, function, generator, no_blocks, same_kinds, strings

BLOCK = ("block",)
FUNCTIONS = [function(n, l, m, name) for n in (1, 2) for l in (1, 2) for m in (1, 2) for name in range(2)]
FUNCTIONS += [function(1, 3, 1), function(3, 3, 1), function(2, 3, 2), function(4, 2, 3), function(3, 3, 3)]


def pair(number):
    return (number.numerator, number.denominator)


def apart(answers, many):
    """How far these answers, each as likely as the others, are from any of so many."""
    return sum(max(Fraction(0), Fraction(answers.count(one), len(answers)) - Fraction(1, many)) for one in {*answers})


def greatest(block, asks):
    """The greatest advantage, found in another way: by all rules after which strings are asked."""
    if block[0] == "generator":
        return apart(list(block[3]), 2 ** block[2])
    _, n, l, m, tables = block
    names = range(2 ** l)
    if asks == 0:
        return Fraction(0)
    if asks == 1:
        return max(apart([table[x] for table in tables], 2 ** m) for x in names)
    found = []
    for x in names:
        total = Fraction(0)
        for answer in {table[x] for table in tables}:
            left = [table for table in tables if table[x] == answer]
            total += max(sum(max(Fraction(0), Fraction(sum(table[y] == other for table in left), len(tables))
                                 - Fraction(1, 4 ** m)) for other in strings(m)) for y in names if y != x)
        found.append(total)
    return max(found)


class Best(unittest.TestCase):
    def check(self, block, asks):
        """The pair is as told: the advantage is that of the breaker, which is plain and asks no more often."""
        found = best(block, asks)
        self.assertEqual([type(found), len(found)], [tuple, 2])
        fraction, breaker = found
        self.assertEqual([type(fraction), type(fraction[0]), type(fraction[1])], [tuple, int, int])
        self.assertEqual(fraction, pair(Fraction(*fraction)))
        self.assertIsNone(check_breaker(breaker))
        self.assertIs(is_plain(breaker), True)
        self.assertLessEqual(most_asks(breaker), asks)
        self.assertEqual(advantage(block, breaker), fraction)
        self.assertEqual(fraction, pair(greatest(block, asks)))
        self.assertTrue(same_kinds(best(block, asks), found))
        return Fraction(*fraction)


class OfGenerators(Best):
    def test_written_out(self):
        self.assertEqual(best(("generator", 1, 2, ("01", "10")), 0)[0], (1, 2))
        self.assertEqual(best(("generator", 1, 2, ("01", "01")), 0)[0], (3, 4))
        self.assertEqual(best(("generator", 1, 1, ("0", "1")), 0)[0], (0, 1))
        self.assertEqual(best(("generator", 2, 1, ("0", "1", "0", "0")), 0)[0], (1, 4))
        self.assertEqual(best(("generator", 2, 1, ("1", "1", "0", "1")), 0)[0], (1, 4))

    def test_every_small_one(self):
        for n, m in ((1, 1), (1, 2), (1, 3), (2, 1)):
            for block in every_generator(n, m):
                self.check(block, 0)

    def test_larger_ones(self):
        for n in range(1, 11):
            for m in range(1, 10):
                found = self.check(generator(n, m), 0)
                self.assertGreaterEqual(found, 1 - Fraction(2 ** n, 2 ** m))

    def test_rows_that_come_about_as_often_as_chance_has_them(self):
        for rows in (strings(2) * 4, strings(2) * 3 + ["00", "00", "01", "11"], strings(3) + ["000"] * 8, strings(4)):
            self.check(("generator", 4, len(rows[0]), tuple(rows)), 0)
        self.assertEqual(best(("generator", 4, 2, tuple(strings(2) * 4)), 0)[0], (0, 1))

    def test_no_other_breaker_has_more(self):
        for block in every_generator(1, 2)[::3] + [generator(2, 3, name) for name in range(4)]:
            found = self.check(block, 0)
            for breaker in KEEN + tuple(breakers("best", 40, depth=5, asks=(), last=block[2], ways=3)):
                self.assertLessEqual(Fraction(*advantage(block, breaker)), found)


class OfFunctions(Best):
    def test_written_out(self):
        block = ("function", 1, 1, 1, (("0", "1"), ("1", "0")))
        self.assertEqual([best(block, asks)[0] for asks in (0, 1, 2)], [(0, 1), (0, 1), (1, 2)])
        block = ("function", 1, 1, 1, (("0", "0"), ("0", "1")))
        self.assertEqual([best(block, asks)[0] for asks in (0, 1, 2)], [(0, 1), (1, 2), (1, 2)])
        block = ("function", 1, 2, 1, (("0", "1", "0", "1"), ("1", "0", "1", "0")))
        self.assertEqual([best(block, asks)[0] for asks in (0, 1, 2)], [(0, 1), (0, 1), (1, 2)])
        block = ("function", 2, 1, 2, (("00", "00"), ("01", "00"), ("10", "00"), ("11", "00")))
        self.assertEqual([best(block, asks)[0] for asks in (0, 1, 2)], [(0, 1), (3, 4), (3, 4)])

    def test_every_one_of_one_bit(self):
        for values in itertools.product(itertools.product("01", repeat=2), repeat=2):
            for asks in (0, 1, 2):
                self.check(("function", 1, 1, 1, values), asks)

    def test_asks_0_to_2(self):
        for block in FUNCTIONS:
            found = [self.check(block, asks) for asks in (0, 1, 2)]
            self.assertEqual(found[0], 0)
            self.assertEqual(found, sorted(found))

    def test_the_longest_keys_and_strings(self):
        for block in (function(8, 3, 3), function(8, 1, 3), function(8, 3, 1), function(1, 3, 3)):
            for asks in (0, 1, 2):
                self.check(block, asks)

    def test_what_is_asked_second_depends_on_the_first_answer(self):
        # Under the keys whose value at 00 is 0 that at 01 is 0 always, under the others that at 10.
        tables = [(first, "0" if first == "0" else other, other if first == "0" else "0", last)
                  for first, other, last in itertools.product("01", repeat=3)]
        block = ("function", 3, 2, 1, tuple(tables))
        self.assertEqual(self.check(block, 2), Fraction(1, 2))
        for x, y in itertools.permutations(range(4), 2):
            self.assertLess(apart([table[x] + table[y] for table in tables], 4), Fraction(1, 2))

    def test_no_other_breaker_has_more(self):
        rng = random.Random(26)
        for block in FUNCTIONS[:10]:
            _, _, l, m, _ = block
            for asks in (0, 1, 2):
                found = self.check(block, asks)
                for _ in range(40):
                    breaker = some_plain(rng, 2 + 2 * asks, asks=(l, l, l + 1) if asks else (), last=2 * m, ways=3)
                    if most_asks(breaker) <= asks:
                        self.assertLessEqual(Fraction(*advantage(block, breaker)), found)
                for made, inner in ((("counter", l, max(asks, 1), m), KEEN[5]), (("marks", l, m), say("0" * (l + m))),
                                    (("marks", l, m), ask("0" * l, ("say", ("1",) * l + (0,) * m))),
                                    (("secrets", l, m), ask("0" * m + "1" * m, KEEN[5]))):
                    if most_asks(over(made, inner)) <= asks:
                        self.assertLessEqual(Fraction(*advantage(block, over(made, inner))), found)


class OverLayers(unittest.TestCase):
    def check(self, scheme, block, whole_asks, asks, number):
        """The best against what is built is no more than so often the best against the block."""
        whole = Fraction(*best(built(scheme, block), whole_asks)[0])
        self.assertLessEqual(whole, number * Fraction(*best(block, asks)[0]), (scheme, block))
        return whole

    def test_longer_and_cut(self):
        more = 0
        for block in every_generator(1, 2) + [generator(2, 3, name) for name in range(6)] + [generator(4, 5)]:
            for k in range(1, 10 - block[1]):
                more += self.check(("longer", k, BLOCK), block, 0, 0, k) > Fraction(*best(block, 0)[0])
            for b in range(1, block[2] + 1):
                self.check(("cut", b, BLOCK), block, 0, 0, 1)
        self.assertGreater(more, 20)

    def test_tree(self):
        for block in every_generator(1, 2) + [generator(2, 4, name) for name in range(4)] + [generator(3, 6)]:
            for d in (1, 2, 3):
                for asks in (0, 1, 2):
                    number = sum(min(2 ** j, max(1, asks)) for j in range(d))
                    self.check(("tree", d, BLOCK), block, asks, 0, number)

    def test_counter(self):
        for block in FUNCTIONS:
            for c in (1, 2):
                self.check(("counter", c, BLOCK), block, 0, c, 1)

    def test_several_layers(self):
        for block in every_generator(1, 2)[::3]:
            for scheme in some_schemes(block, 2, sizes=(1, 2, 3)):
                whole = built(scheme, block)
                if whole[0] == "generator" and whole[2] <= 9:
                    number = 1
                    inner = scheme
                    while inner != BLOCK:
                        name, size, inner = inner
                        # Only counter asks here, and it lies on a tree.
                        number *= size if name == "longer" else 1
                        if name == "tree":
                            number *= sum(min(2 ** j, scheme[1]) for j in range(size))
                    self.check(scheme, block, 0, 0, number)


class WrongOnes(unittest.TestCase):
    def refused(self, block, asks):
        with self.assertRaises(BadChoice):
            best(block, asks)

    def test_asks_out_of_bounds(self):
        for block in FUNCTIONS:
            for asks in (-1, 3, 4, 10 ** 30, -10 ** 30):
                self.refused(block, asks)
        for block in (generator(1, 1), generator(2, 9), generator(10, 3)):
            for asks in (-1, 1, 2, 3, 10 ** 30):
                self.refused(block, asks)

    def test_blocks_that_are_too_long(self):
        for m in (10, 11, 40):
            self.refused(generator(2, m), 0)
        for l, m in ((4, 1), (1, 4), (3, 4), (4, 3), (8, 40), (5, 5)):
            for asks in (0, 1, 2):
                self.refused(function(2, l, m), asks)
        for block in (generator(1, 9), generator(10, 9)):
            self.assertGreaterEqual(best(block, 0)[0][0], 0)

    def test_both_wrong_at_once(self):
        self.refused(generator(1, 10), 1)
        self.refused(function(1, 4, 4), 3)

    def test_what_is_no_block_comes_first(self):
        for value in itertools.islice(no_blocks(), 0, None, 11):
            for asks in (0, 1, -1, None):
                with self.assertRaises(BadBlock):
                    best(value, asks)

    def test_by_name(self):
        self.assertEqual(best(asks=0, block=generator(1, 2)), best(generator(1, 2), 0))

    def test_made_breakers_have_no_more(self):
        # Those that lead to the game of this generator, over inner ones that look.
        block = generator(2, 3)
        found = Fraction(*best(block, 0)[0])
        for made in MADE:
            if made[0] in ("longer", "once", "opening", "guess", "cut"):
                for inner in (*KEEN, ask("000111", KEEN[5])):
                    self.assertLessEqual(Fraction(*advantage(block, over(made, inner))), found)
        self.assertEqual(advantage(block, ONE), (0, 1))


if __name__ == "__main__":
    unittest.main()
