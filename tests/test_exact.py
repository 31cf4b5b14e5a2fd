"""Promises 13 to 19: what is exact, and the bounds, worked out in fractions with blocks of one or two bits."""

import itertools
import unittest
from fractions import Fraction

from breakback.blocks import counter, cut, hardbits, longer, tree
from breakback.breakers import most_asks
from breakback.chances import advantage, chance
from breakback.errors import TooMany
from tests import model
from tests.sample_breakers import KEEN, ONE, ZERO, all_different, ask, breakers, look, say, toss
from tests.samples import every_generator, function, generator, strings


def of(game, breaker):
    return Fraction(*chance(game, breaker))


def gained(block, breaker):
    return Fraction(*advantage(block, breaker))


class Exact(unittest.TestCase):
    def setUp(self):
        self.unlike = 0

    def same(self, first, second, told):
        """Two numbers are the same; how often they are not nought is counted."""
        self.assertEqual(first, second, told)
        self.unlike += first != 0

    def most_were_not_nought(self, least):
        self.assertGreaterEqual(self.unlike, least)


class Generators(Exact):
    def test_longer(self):
        blocks = every_generator(1, 2) + [generator(2, 3, name) for name in range(6)]
        for block in blocks:
            for k in (1, 2, 3, 4):
                whole = longer(block, k)
                for breaker in KEEN[4:] + tuple(breakers(("longer", k), 3, depth=5, asks=(1, 2), ways=3)):
                    self.same(gained(block, ("longer", block, k, breaker)) * k, gained(whole, breaker),
                              (block, k, breaker))
        self.most_were_not_nought(300)

    def test_cut(self):
        for block in every_generator(1, 2) + [generator(2, 4, name) for name in range(6)]:
            for b in range(1, block[2] + 1):
                for breaker in KEEN[4:] + tuple(breakers(("cut", b), 3, depth=4, asks=(1,))):
                    self.same(gained(block, ("cut", b, breaker)), gained(cut(block, b), breaker), (block, b, breaker))
        self.most_were_not_nought(100)

    def test_once(self):
        for block in every_generator(1, 2) + [generator(2, 2, name) for name in range(4)]:
            for breaker in ([ask("0110", after) for after in KEEN] + [ask("01", ask("1100", KEEN[7])), KEEN[5]]
                            + breakers("once", 6, depth=5, asks=(4, 4, 2), ways=4)):
                gain = [of(("once", block, real, 1), breaker) - of(("once", block, real, 0), breaker)
                        for real in (True, False)]
                self.assertEqual(gain[1], 0)
                self.same(2 * gained(block, ("once", 2, breaker)), gain[0], (block, breaker))
        self.most_were_not_nought(25)

    def test_opening(self):
        for block in every_generator(1, 2) + [generator(2, 2, name) for name in range(4)]:
            for r in strings(2):
                for breaker in KEEN + tuple(breakers(("opening", r), 2, depth=4, asks=(1,))):
                    gain = [of(("opening", block, r, real, 1), breaker) - of(("opening", block, r, real, 0), breaker)
                            for real in (True, False)]
                    self.assertEqual(gain[1], 0)
                    self.same(2 * gained(block, ("opening", r, breaker)), gain[0], (block, r, breaker))
        self.most_were_not_nought(70)

    def test_next_and_guess(self):
        half = Fraction(1, 2)
        for block in every_generator(1, 2) + [generator(2, 3, name) for name in range(5)] + [generator(1, 1)]:
            m = block[2]
            for breaker in KEEN + tuple(breakers("next", 4, depth=4, asks=(1,), ways=3)):
                self.same(of(("next", block, True), ("next", m, breaker)) - half, gained(block, breaker) / m,
                          (block, breaker))
                self.same(gained(block, ("guess", m, breaker)), of(("next", block, True), breaker) - half,
                          (block, breaker))
                self.assertEqual(of(("next", block, False), breaker), half)
        self.most_were_not_nought(200)


class Functions(Exact):
    def tree(self, block, d, q, breaker):
        self.assertLessEqual(most_asks(breaker), q)
        many = sum(min(2 ** j, q) for j in range(d))
        self.same(gained(block, ("tree", block, d, q, breaker)) * many, gained(tree(block, d), breaker),
                  (block, d, q, breaker))

    def test_tree_of_one_bit(self):
        for block in every_generator(1, 2)[::2]:
            for d in (1, 2, 3):
                first, last = "0" * d, "1" * d
                for breaker in (ask(first, ("say", (0,))), ask(last, ask(first, KEEN[7])),
                                ask(first, ask("0" * (d - 1) + "1", KEEN[5])), ask(first, ask(first, KEEN[7])),
                                ask(first, ("ask", (0,) * d, KEEN[7]))):
                    for q in (1, 2, 3):
                        if most_asks(breaker) <= q:
                            self.tree(block, d, q, breaker)
        for block in (generator(1, 2, name) for name in range(3)):
            for d in (1, 2, 3):
                for breaker in breakers(("tree", d), 10, depth=4, asks=(d, d, d, d + 1), ways=2):
                    self.tree(block, d, max(1, most_asks(breaker)), breaker)
                    self.tree(block, d, most_asks(breaker) + 1, breaker)
        self.most_were_not_nought(100)

    def test_tree_of_two_bits(self):
        for block in (generator(2, 4, name) for name in range(3)):
            for d in (1, 2):
                for breaker in (ask("0" * d, KEEN[4]), ask("1" * d, ask("0" * d, KEEN[6])),
                                ask("01"[:d], ask("00"[:d], KEEN[7]))):
                    self.tree(block, d, 2, breaker)
                    if most_asks(breaker) == 1:
                        self.tree(block, d, 1, breaker)
        self.most_were_not_nought(15)

    def test_tree_with_no_asks(self):
        for q in (1, 2, 1000):
            self.tree(generator(1, 2), 2, q, toss(ONE, ZERO))

    def test_counter(self):
        for block in (function(1, 1, 1), function(2, 1, 2), function(1, 2, 1), function(2, 2, 2, "two")):
            for c in range(1, 2 ** block[2] + 1):
                for breaker in KEEN + tuple(breakers(("counter", c), 3, depth=4, asks=(1, 2), ways=3)):
                    if c * block[3] <= 6:
                        self.same(gained(block, ("counter", block[2], c, block[3], breaker)),
                                  gained(counter(block, c), breaker), (block, c, breaker))
        self.most_were_not_nought(30)

    def test_marks(self):
        for block in (function(1, 1, 1), function(2, 1, 2), function(1, 2, 1), function(2, 2, 1, "two")):
            _, _, l, m, _ = block
            tries = [ask("0" * l, ("say", ("1",) * l + parts)) for parts in itertools.product(("0", "1", 0), repeat=m)]
            for breaker in tries + breakers(("marks", l, m), 12, depth=5, asks=(l, l, l + 1), says=(l + m, l + m, l)):
                real, fresh = of(("marks", block, True), breaker), of(("marks", block, False), breaker)
                self.same(gained(block, ("marks", l, m, breaker)), real - fresh, (block, breaker))
                self.assertLessEqual(fresh, Fraction(1, 2 ** m))
        self.most_were_not_nought(20)

    def test_secrets(self):
        for block in (function(1, 1, 1), function(2, 1, 2), function(1, 2, 1)):
            _, _, l, m, _ = block
            messages = "0" * m + "1" * m
            tries = [ask(messages, after) for after in KEEN]
            # Asked twice, the same string may come: then the difference of the messages is seen.
            same = look(0, look(l + m, ("say", (l,)), ZERO), look(l + m, ZERO, ("say", (2 * l + m,))))
            tries += [ask(messages, ask(messages, after)) for after in (*KEEN[4:8], same)]
            tries += [ask("0" * 2 * m, ask(messages, look(l, ("say", (2 * l + m,)), ZERO)))]
            for breaker in tries + breakers(("secrets", l, m), 5, depth=4, asks=(2 * m,), ways=2):
                q = most_asks(breaker)
                if q > 2:
                    continue
                gain = [of(("secrets", block, real, 1), breaker) - of(("secrets", block, real, 0), breaker)
                        for real in (True, False)]
                self.same(2 * gained(block, ("secrets", l, m, breaker)), gain[0] - gain[1], (block, breaker))
                self.assertLessEqual(abs(gain[1]), min(1, Fraction(q * (q - 1), 2 ** (l + 1))))
        self.most_were_not_nought(20)


class OneWay(Exact):
    def test_onetime(self):
        known = (ask("1", ("say", ("0", 0))), ask("0", ("say", ("1", "0"))), ask("1", look(0, say("00"), say("01"))),
                 say("01"), say("00"), say("11"), ask("1", say("10")), toss(say("10"), ask("1", say("01"))),
                 ask("11", ask("0", ("say", ("1", 2)))))
        for block in every_generator(1, 1) + every_generator(1, 2)[::3]:
            for breaker in known + tuple(breakers("onetime", 6, depth=4, asks=(1, 1, 2), says=(2, 2, 1), ways=2)):
                self.onetime(block, 1, breaker)
        for block in (generator(1, 1), generator(1, 2), ("generator", 1, 1, ("0", "0"))):
            for breaker in (ask("01", say("1000")), ask("01", say("1100")), ask("01", say("0110")), say("1001"),
                            ask("10", ("say", ("0", "1", 0, 4))),
                            *breakers("onetime of two", 6, depth=4, asks=(2, 2, 1), says=(4,), ways=2)):
                self.onetime(block, 2, breaker)
        for breaker in (ask("01", say("100000")), say("101100"), ask("11", ("say", ("0", "1", 0, 1, 4, 5)))):
            self.onetime(generator(2, 2), 2, breaker)
        self.most_were_not_nought(50)

    def onetime(self, block, l, breaker):
        mean = Fraction(0)
        for weight, outcome, said, _, asked in model.plays(("onetime", block, l), breaker):
            answered = [string for string, _ in asked if len(string) == l]
            if outcome:
                mean += weight * (sum(map(str.__ne__, answered[0], said[:l])) if answered else l)
        self.same(of(("inverse", block), ("onetime", block, l, breaker)) * 2 * l, mean, (block, l, breaker))

    def test_bit(self):
        for block in [all_different(1, 1), ("generator", 1, 1, ("1", "0")), all_different(2, 2),
                      all_different(2, 2, "other"), ("generator", 2, 2, ("00", "01", "10", "11"))]:
            n = block[1]
            # Whether the last bit is the parity of r and of what the row tells of x.
            told = ("say", (2 * n,))
            for breaker in KEEN + (told, look(0, ZERO, told), look(n, told, look(2 * n, ONE, ZERO)),
                                   look(1, ONE, look(3, told, ONE)),
                                   *breakers("bit", 8, depth=5, asks=(1,), ways=3)):
                self.same(of(("hard", block), ("bit", breaker)) - Fraction(1, 2), gained(hardbits(block), breaker),
                          (block, breaker))
        self.most_were_not_nought(18)

    def test_hard(self):
        blocks = (*every_generator(1, 1), *every_generator(1, 2)[::5], all_different(2, 2), generator(2, 1),
                  generator(2, 2, "some"), ("generator", 2, 1, ("0",) * 4), all_different(2, 3))
        for block in blocks:
            m, n = block[2], block[1]
            for breaker in KEEN + (("say", (m,)), ("say", (m + n - 1,)), look(0, ("say", (m,)), ("say", (m + n - 1,))),
                                   toss(ZERO, ("say", (m,))), *breakers("hard", 4, depth=3, asks=(1,), ways=2)):
                self.hard(block, breaker)
        self.most_were_not_nought(100)

    def hard(self, block, breaker):
        _, n, _, rows = block
        names = strings(n)
        mean = Fraction(0)
        for row in rows:
            # The guess at each r is 1 with this chance, and drawn anew for each.
            ones = [self.guessed_one(breaker, row + r) for r in names]
            for guesses in itertools.product((0, 1), repeat=2 ** n):
                weight = Fraction(1, 2 ** n)
                for guess, one in zip(guesses, ones):
                    weight *= one if guess else 1 - one
                if weight:
                    squares = [worth ** 2 for worth in model.sums(n, guesses)]
                    self.assertEqual(sum(squares), 4 ** n)
                    found = sum(square for square, other in zip(squares, rows) if other == row)
                    mean += weight * Fraction(found, 4 ** n)
        inverted = of(("inverse", block), ("hard", n, breaker))
        self.same(inverted, mean, (block, breaker))
        self.assertGreaterEqual(inverted, (2 * of(("hard", block), breaker) - 1) ** 2)

    def guessed_one(self, breaker, handed):
        """The chance that the guess is 1, in a game that hands out this string alone."""
        return of(("generator", ("generator", 1, len(handed), (handed, handed)), True), breaker)

    def test_a_perfect_guess_inverts(self):
        # The row is x itself, so that the parity with r can be told; then x is found always.
        block = ("generator", 2, 2, tuple(strings(2)))
        unlike = look(2, ("say", (3,)), look(3, ONE, ZERO))
        parity = look(0, look(1, ZERO, ("say", (3,))), look(1, ("say", (2,)), unlike))
        self.assertEqual(of(("hard", block), parity), 1)
        self.assertEqual(of(("inverse", block), ("hard", 2, parity)), 1)


class WithoutABlock(Exact):
    def differ(self, first, second, breaker, bound):
        apart = abs(of(first, breaker) - of(second, breaker))
        self.assertLessEqual(apart, bound, (first, second, breaker))
        self.unlike += apart != 0
        return apart

    def test_permutations(self):
        for l in (1, 2, 3):
            block = function(1, l, l)
            first, second, third = "000"[:l], "111"[:l], "011"[:l]
            same = look(0, look(l, ONE, ZERO), look(l, ZERO, ONE))
            for breaker in (ask(first, KEEN[4]), ask(first, ask(second, same)), ask(first, ask(first, same)),
                            ask(first, ask(second, ask(third, same))), ask(first, ("ask", (0,) * l, same)),
                            *breakers(("permutation", l), 25, depth=5, asks=(l, l, l, l + 1), ways=2)):
                q = most_asks(breaker)
                bound = Fraction(q * (q - 1), 2 ** (l + 1))
                self.differ(("function", block, False), ("permutation", l), breaker, bound)
        self.most_were_not_nought(10)

    def test_the_bound_for_permutations_is_reached(self):
        block = function(1, 1, 1)
        same = look(0, look(1, ONE, ZERO), look(1, ZERO, ONE))
        self.assertEqual(self.differ(("function", block, False), ("permutation", 1), ask("0", ask("1", same)), 1),
                         Fraction(1, 2))

    def test_three_swaps(self):
        block = function(1, 2, 2)
        same = look(0, look(2, ONE, ZERO), look(2, ZERO, ONE))
        rest = look(1, look(3, ONE, ZERO), look(3, ZERO, ONE))
        equal = look(0, look(2, rest, ZERO), look(2, ZERO, rest))
        for breaker in (ask("00", KEEN[4]), ask("00", ask("10", same)), ask("01", ask("11", KEEN[6])),
                        *[ask(one, ask(two, equal)) for one in strings(2) for two in strings(2)],
                        ask("00", ask("10", look(1, look(3, ONE, ZERO), look(3, ZERO, ONE)))),
                        *breakers("swaps", 30, depth=5, asks=(2, 2, 2, 1), ways=2)):
            q = most_asks(breaker)
            self.differ(("function", block, False), ("swaps", 1, 3), breaker, Fraction(q * (q - 1), 2))
        self.most_were_not_nought(3)

    def test_three_swaps_of_two_bits(self):
        block = function(1, 4, 4)
        for second in ("0100", "0001", "0111"):
            for at in (0, 2):
                same = look(at, look(at + 4, ONE, ZERO), look(at + 4, ZERO, ONE))
                breaker = ask("0000", ask(second, same))
                self.differ(("function", block, False), ("swaps", 2, 3), breaker, Fraction(2, 4))

    def test_fewer_swaps_are_told_apart(self):
        # After one round the right half stands on the left; after two, two lefts differ just as those asked.
        block = function(1, 2, 2)
        self.assertEqual(of(("swaps", 1, 1), ask("01", ("say", (0,)))), 1)
        again = look(0, look(2, ZERO, ONE), look(2, ONE, ZERO))
        self.assertEqual(of(("swaps", 1, 2), ask("00", ask("10", again))), 1)
        self.assertEqual(of(("function", block, False), ask("00", ask("10", again))), Fraction(1, 2))


class OneOverAnother(Exact):
    """Made breakers in one another gain what the inner one does, each counted as often as its own point tells."""

    def test_layers_of_generators(self):
        for block in [generator(1, 2, name) for name in range(5)]:
            whole = cut(longer(block, 3), 3)
            for breaker in KEEN[4:]:
                made = ("longer", block, 3, ("cut", 3, breaker))
                self.same(3 * gained(block, made), gained(whole, breaker), (block, breaker))
                twice = ("longer", block, 1, ("longer", longer(block, 1), 2, breaker))
                self.same(2 * gained(block, twice), gained(longer(longer(block, 1), 2), breaker), (block, breaker))
                game = [("once", whole, True, b) for b in (1, 0)]
                hiding = ask("000111", breaker)
                self.same(6 * gained(block, ("longer", block, 3, ("cut", 3, ("once", 3, hiding)))),
                          of(game[0], hiding) - of(game[1], hiding), (block, breaker))
        self.most_were_not_nought(40)

    def test_a_tree_over_a_longer_one(self):
        for block in [generator(1, 2, name) for name in range(4)]:
            doubled = longer(block, 1)
            names = tree(doubled, 2)
            for breaker in (ask("01", look(0, say("110"), say("101"))), ask("00", ask("01", say("100"))),
                            ask("11", say("000"))):
                made = ("longer", block, 1, ("tree", doubled, 2, 3, ("marks", 2, 1, breaker)))
                gain = of(("marks", names, True), breaker) - of(("marks", names, False), breaker)
                self.same(3 * gained(block, made), gain, (block, breaker))
        self.most_were_not_nought(4)

    def test_from_a_stream_that_is_built_on_a_one_way_table(self):
        for block in (all_different(1, 1), ("generator", 1, 1, ("1", "0"))):
            whole = hardbits(block)
            for breaker in KEEN[4:8] + (("say", (2,)), look(0, ("say", (1,)), ("say", (2,)))):
                gain = gained(whole, breaker)
                found = of(("inverse", block), ("hard", 1, ("bit", breaker)))
                self.assertGreaterEqual(found, (2 * gain) ** 2)
                self.unlike += gain != 0
        self.most_were_not_nought(4)

    def test_too_many_ways_are_told(self):
        with self.assertRaises(TooMany):
            advantage(generator(2, 4), ("tree", generator(2, 4), 8, 2, ask("0" * 8, ask("1" * 8, ONE))), most=100)


if __name__ == "__main__":
    unittest.main()
