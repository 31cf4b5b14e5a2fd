"""Promises 1 and 8, and the interface's fractions, chances, ways and advantages."""

import random
import unittest
from fractions import Fraction

from breakback.chances import add, advantage, chance, fraction, less, times, ways
from breakback.errors import BadBlock, BadBreaker, BadChoice, BadGame, BreakError, TooMany
from tests import model
from tests.sample_breakers import (LEADING, ONE, ZERO, F111, F212, G12, G23, G24, all_different, ask, breakers, f22,
                                   games, look, over, say, toss)
from tests.samples import function, generator

LARGE = (10 ** 29 + 7, 10 ** 30 - 1, 2 ** 99, 3 ** 62, 123456789012345678901234567890)


def pair(number):
    return (Fraction(number).numerator, Fraction(number).denominator)


class Fractions(unittest.TestCase):
    def same(self, found, expected):
        self.assertEqual(found, pair(expected))
        self.assertEqual([type(found), type(found[0]), type(found[1])], [tuple, int, int])
        self.assertGreater(found[1], 0)

    def test_written_out(self):
        for numerator, denominator, expected in (
                (1, 2, (1, 2)), (2, 4, (1, 2)), (-2, 4, (-1, 2)), (2, -4, (-1, 2)), (-2, -4, (1, 2)), (0, 5, (0, 1)),
                (0, -5, (0, 1)), (7, 1, (7, 1)), (7, -1, (-7, 1)), (6, 3, (2, 1)), (-6, -3, (2, 1)), (0, 1, (0, 1))):
            self.assertEqual(fraction(numerator, denominator), expected)
        self.assertEqual(fraction(denominator=4, numerator=2), (1, 2))
        self.assertEqual(add((1, 6), (1, 3)), (1, 2))
        self.assertEqual(add((1, 2), (-1, 2)), (0, 1))
        self.assertEqual(less((1, 6), (1, 3)), (-1, 6))
        self.assertEqual(less((1, 2), (1, 2)), (0, 1))
        self.assertEqual(times((2, 3), (3, 4)), (1, 2))
        self.assertEqual(times((-2, 3), (0, 1)), (0, 1))
        self.assertEqual(less(second=(1, 3), first=(1, 6)), (-1, 6))
        self.assertEqual(add(second=(1, 3), first=(1, 6)), (1, 2))
        self.assertEqual(times(second=(1, 3), first=(1, 6)), (1, 18))

    def test_all_small_ones(self):
        small = [(numerator, denominator) for numerator in range(-6, 7) for denominator in range(-6, 7) if denominator]
        for numerator, denominator in small:
            self.same(fraction(numerator, denominator), Fraction(numerator, denominator))
        lowest = sorted({pair(Fraction(*one)) for one in small})
        for first in lowest:
            for second in lowest:
                self.same(add(first, second), Fraction(*first) + Fraction(*second))
                self.same(less(first, second), Fraction(*first) - Fraction(*second))
                self.same(times(first, second), Fraction(*first) * Fraction(*second))

    def test_numbers_of_thirty_digits(self):
        for numerator in LARGE:
            for denominator in LARGE:
                for sign in (1, -1):
                    self.same(fraction(sign * numerator, denominator), Fraction(sign * numerator, denominator))
                    self.same(fraction(numerator * 6, sign * denominator * 4),
                              Fraction(sign * numerator * 6, denominator * 4))
                    first, second = pair(Fraction(sign * numerator, denominator)), pair(Fraction(denominator, 2 ** 98))
                    self.same(add(first, second), Fraction(*first) + Fraction(*second))
                    self.same(less(first, second), Fraction(*first) - Fraction(*second))
                    self.same(times(first, second), Fraction(*first) * Fraction(*second))
                    self.same(less(first, first), Fraction(0))


class Counted(unittest.TestCase):
    def refused(self, asked):
        with self.assertRaises(TooMany) as caught:
            asked()
        self.assertIsInstance(caught.exception, BreakError)
        self.assertNotIsInstance(caught.exception, (BadChoice, BadBreaker))

    def check(self, game, breaker):
        """Chance and ways are as a count of all rows of choices tells, up to most and not beyond it."""
        expected, many = model.chance_and_ways(game, breaker)
        found = chance(game, breaker)
        self.assertEqual(found, pair(expected), (game, breaker))
        self.assertEqual([type(found), type(found[0]), type(found[1])], [tuple, int, int])
        self.assertEqual(ways(game, breaker), many)
        self.assertEqual(ways(game, breaker, most=many), many)
        self.assertEqual(chance(game, breaker, most=many), found)
        for most in {many - 1, many // 2, 1} - {0, many}:
            self.refused(lambda: ways(game, breaker, most=most))
            self.refused(lambda: chance(game, breaker, most=most))
        return many


class WrittenOut(Counted):
    def test_generator(self):
        block = ("generator", 1, 2, ("01", "10"))
        first = ("say", (0,))
        self.assertEqual(chance(("generator", block, True), first), (1, 2))
        same = look(0, look(1, ONE, ZERO), look(1, ZERO, ONE))
        self.assertEqual(chance(("generator", block, True), same), (0, 1))
        self.assertEqual(chance(("generator", block, False), same), (1, 2))
        self.assertEqual(advantage(block, same), (-1, 2))
        self.assertEqual(advantage(block, first), (0, 1))
        self.assertEqual(advantage(block, toss(same, ZERO, look(0, look(1, ZERO, ONE), look(1, ONE, ZERO)))), (0, 1))
        self.assertEqual(ways(("generator", block, False), toss(ONE, toss(ONE, ZERO, ONE))), 16)

    def test_chances_by_name(self):
        game = ("generator", G12, True)
        self.assertEqual(chance(breaker=ONE, game=game, most=2), (1, 1))
        self.assertEqual(ways(breaker=ONE, game=game, most=2), 2)
        self.assertEqual(advantage(breaker=ONE, block=G12, most=4), (0, 1))

    def test_no_draw_at_all(self):
        self.assertEqual(chance(("permutation", 3), ONE, most=1), (1, 1))
        self.assertEqual(chance(("swaps", 1, 1), ZERO, most=1), (0, 1))
        self.assertEqual(ways(("permutation", 3), ONE, most=1), 1)

    def test_draws_of_unlike_chances(self):
        breaker = toss(ONE, toss(ONE, ZERO), toss(ONE, ZERO, ZERO), ZERO, toss(toss(ONE)))
        self.assertEqual(chance(("permutation", 1), breaker), pair(Fraction(1, 5) * (1 + Fraction(1, 2)
                                                                                     + Fraction(1, 3) + 0 + 1)))
        self.assertEqual(ways(("permutation", 1), breaker), 8)

    def test_a_draw_that_changes_nothing_counts(self):
        self.assertEqual(ways(("generator", generator(1, 9), False), ONE), 512)
        self.assertEqual(ways(("next", G23, True), ONE), 12)
        self.assertEqual(ways(("onetime", G12, 4), say("")), 256)
        self.assertEqual(ways(("generator", G12, True), ("longer", G12, 3, ONE)), 2 * (1 + 2 + 4))
        self.assertEqual(ways(("permutation", 2), ask("00", ask("01", ask("10", ask("11", ONE))))), 24)


class AgainstACount(Counted):
    def test_plain_breakers_in_every_game(self):
        rng = random.Random(31)
        seen = 0
        for number in range(5):
            for game, asks, says in games(rng):
                for breaker in breakers((game[0], number, "chance"), 2, depth=4, asks=asks, says=says, ways=4):
                    if many_ways(game, breaker) <= 1500:
                        seen += self.check(game, breaker) > 0
        self.assertGreater(seen, 90)

    def test_made_breakers(self):
        seen = 0
        for game, made in LEADING:
            for breaker in breakers((made[0], "chance"), 6, depth=4, asks=(1, 2, 2, 4), says=(1, 1, 2, 3, 6), ways=3):
                if many_ways(game, over(made, breaker)) <= 3000:
                    seen += self.check(game, over(made, breaker)) > 0
        self.assertGreater(seen, 60)

    def test_made_ones_in_made_ones(self):
        for inner in breakers("inner", 4, depth=3, asks=(2, 4), says=(1,), ways=2):
            for game, breaker in (
                    (("generator", G23, True), ("longer", G23, 2, ("once", 4, inner))),
                    (("generator", G12, False), ("longer", G12, 2, ("guess", 3, inner))),
                    (("generator", G24, True), ("cut", 3, ("longer", G23, 2, ("opening", "0110", inner)))),
                    (("function", F212, False), ("counter", 1, 2, 2, ("guess", 4, inner))),
                    (("inverse", G12), ("hard", 1, ("bit", ("cut", 2, inner)))),
                    (("generator", G12, True), ("tree", G12, 2, 1, ("marks", 2, 1, inner)))):
                if many_ways(game, breaker) <= 3000:
                    self.check(game, breaker)

    def test_advantages(self):
        for block in (G12, G23, F111, F212, function(1, 2, 1)):
            asks = (block[2],) if block[0] == "function" else ()
            for breaker in breakers((block, "advantage"), 8, depth=4, asks=asks, ways=3):
                real, any_one = [model.chance_and_ways((block[0], block, real), breaker) for real in (True, False)]
                if max(real[1], any_one[1]) > 2000:
                    continue
                most = max(real[1], any_one[1])
                for found in (advantage(block, breaker), advantage(block, breaker, most=most)):
                    self.assertEqual(found, pair(real[0] - any_one[0]))
                    self.assertEqual([type(found), type(found[0]), type(found[1])], [tuple, int, int])
                if most > 1:
                    self.refused(lambda: advantage(block, breaker, most=most - 1))


def many_ways(game, breaker):
    """The ways by the program, many more than a test goes through if there are too many."""
    try:
        return ways(game, breaker, most=20000)
    except TooMany:
        return 10 ** 9


class JustEnough(Counted):
    def test_the_most_that_stands_if_nothing_is_told(self):
        block = generator(5, 25)
        game = ("next", block, True)
        many = toss(*[toss(*[ONE] * 25)] * 15)
        self.assertEqual(ways(game, many), 300000)
        self.assertEqual(chance(game, many), pair(Fraction("".join(block[3]).count("1"), 25 * 32)))
        self.refused(lambda: ways(game, many, most=299999))
        self.refused(lambda: chance(game, many, most=299999))
        # One way more: a draw where the challenge is that of the last place and the first seed.
        handed = block[3][0][:24] + "1"
        further = toss(ONE, ZERO)
        for at in reversed(range(25)):
            further = look(at, ONE, further) if handed[at] == "1" else look(at, further, ONE)
        more = toss(*[toss(*[ONE] * 25)] * 14, toss(further, *[ONE] * 24))
        self.refused(lambda: ways(game, more))
        self.refused(lambda: chance(game, more))
        self.assertEqual(ways(game, more, most=300001), 300001)

    def test_the_most_of_an_advantage(self):
        block = ("generator", 10, 1, ("1",) * 1024)
        breaker = toss(*[toss(*[ONE] * 20)] * 14)
        self.assertEqual(ways(("generator", block, True), breaker), 286720)
        self.assertEqual(advantage(block, breaker), (0, 1))
        breaker = toss(*[toss(*[ONE] * 21)] * 14)
        self.refused(lambda: advantage(block, breaker))
        self.assertEqual(advantage(block, breaker, most=301056), (0, 1))

    def test_many_too_many_are_told_soon(self):
        for game in (("generator", generator(1, 40), False), ("next", generator(1, 40), False),
                     ("function", function(1, 1, 40), False)):
            for most in (1, 300000, 10 ** 9):
                self.refused(lambda: chance(game, ask("0", ask("1", ONE)), most=most))
                self.refused(lambda: ways(game, ask("0", ask("1", ONE)), most=most))
        self.refused(lambda: chance(("hard", f22), ("bit", toss(*[toss(*[ONE] * 40)] * 40)), most=10000))

    def test_very_many_draws_one_behind_the_other(self):
        breaker = ONE
        for _ in range(59):
            breaker = toss(breaker)
        self.assertEqual(ways(("inverse", all_different(4, 4)), ("hard", 4, breaker)), 16 * 256)
        self.assertEqual(chance(("generator", G12, True), breaker), (1, 1))

    def test_many_asks_one_behind_the_other(self):
        self.assertEqual(chance(("function", function(2, 8, 1), True), ("counter", 8, 256, 1, ONE)), (1, 1))


class WrongOnes(unittest.TestCase):
    def test_the_game_comes_first_then_the_breaker_then_most(self):
        for asked in (chance, ways):
            with self.assertRaises(BadGame):
                asked(("generator", F111, True), None, most=1)
            with self.assertRaises(BadBreaker):
                asked(("generator", G12, True), None, most=1)
            with self.assertRaises(TooMany):
                asked(("generator", G12, True), ONE, most=1)
            with self.assertRaises(TypeError):
                asked(("generator", G12, True), ONE, 5)
        with self.assertRaises(BadBlock):
            advantage(("generator", 1, 2, ()), None, most=1)
        with self.assertRaises(BadBreaker):
            advantage(G12, ("toss", ()), most=1)
        with self.assertRaises(TooMany):
            advantage(G12, ONE, most=3)
        self.assertEqual(advantage(f22, ONE, most=4), (0, 1))


if __name__ == "__main__":
    unittest.main()
