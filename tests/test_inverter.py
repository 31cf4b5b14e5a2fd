"""Promise 25: whoever gains at anything that is built on a one-way table inverts it."""

import itertools
import unittest
from fractions import Fraction

from breakback.blocks import hardbits
from breakback.breakers import check_breaker
from breakback.chances import chance
from breakback.errors import BadBlock, BadBreaker, BadScheme, TooMany
from breakback.games import play
from breakback.schemes import carried, gain, inverter
from tests.model import chance_and_ways
from tests.model_schemes import carry, goals_over, table_of
from tests.sample_attacks import tries
from tests.sample_breakers import MADE, ONE, ZERO, all_different, ask, look, over, toss
from tests.samples import function, generator, no_blocks, same_kinds, strings

BLOCK = ("block",)


def one_to_one(n):
    """All generators from n to n bits with no two rows the same."""
    return [("generator", n, n, rows) for rows in itertools.permutations(strings(n))]


def by_bits(length, said, at=0, seen=""):
    """The breaker that looks at all of so many bits and then says what is told for them."""
    if at == length:
        return ("say", tuple(said(seen)))
    return look(at, by_bits(length, said, at + 1, seen + "0"), by_bits(length, said, at + 1, seen + "1"))


def knowing(block, turn=0):
    """The breaker that knows the table and says "1" where the last bit is the parity; of turned bits, if told."""
    n = block[1]

    def said(seen):
        seen = seen[turn:] + seen[:turn]
        x = strings(n)[block[3].index(seen[:n])]
        both = sum(one == two == "1" for one, two in zip(x, seen[n:2 * n]))
        return "1" if both % 2 == int(seen[2 * n]) else "0"

    return by_bits(2 * n + 1, said)


def parity(n, at=0, odd=False):
    """The breaker that knows that the row is x itself; it says "1" where the last bit is the parity."""
    if at == n:
        return look(2 * n, *((ZERO, ONE) if odd else (ONE, ZERO)))
    same = parity(n, at + 1, odd)
    return look(at, same, look(n + at, same, parity(n, at + 1, not odd)))


class Made(unittest.TestCase):
    def test_the_tuple(self):
        for block in [*one_to_one(1), *one_to_one(2)[::5], *[all_different(n, n) for n in (3, 4, 5)]]:
            n, whole = block[1], hardbits(block)
            for scheme in (BLOCK, ("cut", n, BLOCK), ("longer", 3, BLOCK), ("longer", 2, ("longer", 1, BLOCK)),
                           ("cut", 2, ("longer", 5, BLOCK))):
                for goal in goals_over(scheme, whole):
                    for breaker in (ONE, look(0, ONE, toss(ONE, ZERO)), ask("01" * whole[2], look(0, ONE, ZERO))):
                        made = inverter(goal, block, breaker)
                        self.assertTrue(same_kinds(made, ("hard", n, ("bit", carry(goal, whole, breaker)[0]))))
                        self.assertEqual(made[2][1], carried(goal, whole, breaker)[0])
                        self.assertIsNone(check_breaker(made))

    def test_written_out(self):
        block = ("generator", 1, 1, ("1", "0"))
        self.assertEqual(inverter(("tell", BLOCK), block, ONE), ("hard", 1, ("bit", ONE)))
        self.assertEqual(inverter(("next", ("cut", 2, BLOCK)), block, ONE),
                         ("hard", 1, ("bit", ("cut", 2, ("guess", 2, ONE)))))
        self.assertEqual(inverter(("opening", "0110", ("longer", 2, BLOCK)), block, ZERO),
                         ("hard", 1, ("bit", ("longer", hardbits(block), 2, ("opening", "0110", ZERO)))))

    def test_functions_that_are_built_on_it(self):
        block = all_different(2, 2)
        whole = hardbits(block)
        scheme = ("tree", 3, ("longer", 4, BLOCK))
        for goal in goals_over(scheme, whole):
            breaker = ask("000", look(0, ONE, ZERO))
            self.assertEqual(inverter(goal, block, breaker), ("hard", 2, ("bit", carry(goal, whole, breaker)[0])))

    def test_by_name(self):
        made = inverter(breaker=ONE, block=all_different(2, 2), goal=("tell", BLOCK))
        self.assertEqual(made, ("hard", 2, ("bit", ONE)))


class Bound(unittest.TestCase):
    def check(self, goal, block, breaker, most):
        """The chance in inverse is at least told; whether the gain was not nought, or None for too many ways."""
        try:
            found = Fraction(*chance(("inverse", block), inverter(goal, block, breaker), most=most))
            gained = Fraction(*gain(goal, hardbits(block), breaker, most=most))
        except TooMany:
            return None
        number = carried(goal, hardbits(block), breaker)[1]
        self.assertGreaterEqual(found, (2 * gained / number) ** 2, (goal, block, breaker))
        return gained != 0

    def check_all(self, blocks, schemes, most, drawn=2, keen=slice(None)):
        found = []
        for block in blocks:
            whole = hardbits(block)
            for scheme in schemes:
                if table_of(scheme, whole) is not None:
                    for goal in goals_over(scheme, whole):
                        for breaker in tries(goal, whole, drawn, keen):
                            found.append(self.check(goal, block, breaker, most))
        return found

    def test_tables_from_one_bit(self):
        found = self.check_all(one_to_one(1), (
            BLOCK, ("cut", 2, BLOCK), ("longer", 1, BLOCK), ("longer", 2, BLOCK), ("cut", 1, ("longer", 3, BLOCK)),
            ("longer", 1, ("longer", 1, BLOCK)), ("tree", 1, ("longer", 2, BLOCK))), 4000)
        self.assertGreater(found.count(True), 60)
        self.assertGreater(len(found), 3 * found.count(None))

    def test_tables_from_two_bits(self):
        found = self.check_all(one_to_one(2)[::12], (BLOCK, ("longer", 1, BLOCK), ("cut", 3, BLOCK)), 3000, 1,
                               slice(None, None, 3))
        for block in one_to_one(2)[::5]:
            # Breakers that know a half of the table or all of it, some of which say something else at times.
            known = knowing(block)
            for breaker in (look(0, known, ZERO), look(1, ONE, known), look(3, known, ("say", (4,))),
                            look(4, known, ONE)):
                found.append(self.check(("tell", BLOCK), block, breaker, 3000))
            found.append(self.check(("tell", BLOCK), block, toss(known, ONE), 20000))
            found.append(self.check(("once", BLOCK), block, ask("0000000001", look(0, known, ONE)), 20000))
            found.append(self.check(("opening", "00001", BLOCK), block, look(1, ZERO, known), 20000))
        self.assertGreater(found.count(True), 35)

    def test_breakers_that_know_the_table(self):
        for block in one_to_one(1) + one_to_one(2)[::3]:
            whole = hardbits(block)
            # Of longer the bit that was put out comes first, which is that which was last.
            for scheme, turn in ((BLOCK, 0), (("longer", 1, BLOCK), 1)):
                goal, breaker = ("tell", scheme), knowing(block, turn)
                self.assertEqual(gain(goal, whole, breaker), (1, 2))
                self.assertEqual(carried(goal, whole, breaker)[1], 1)
                self.assertEqual(chance(("inverse", block), inverter(goal, block, breaker)), (1, 1))
            # To turn the last bit round is to turn the right parity into the other one.
            length, last = whole[2], "0" * (whole[2] - 1) + "1"
            for goal, breaker in ((("once", BLOCK), ask("0" * length + last, knowing(block))),
                                  (("opening", last, BLOCK), knowing(block))):
                self.assertEqual(gain(goal, whole, breaker), (-1, 1))
                self.assertEqual(chance(("inverse", block), inverter(goal, block, breaker)), (1, 1))

    def test_who_knows_the_table_inverts_it_in_every_play(self):
        for block in (all_different(3, 3), all_different(4, 4)):
            made = inverter(("tell", BLOCK), block, knowing(block))
            for choices in ((), (1,) * 30, (5, 1, 0, 1, 1, 0, 0, 1, 1, 1, 0), (3, 0, 1) + (1, 0) * 7):
                self.assertEqual(play(("inverse", block), made, choices).outcome, 1)
        block = ("generator", 5, 5, tuple(strings(5)))
        made = inverter(("tell", BLOCK), block, parity(5))
        for choices in ((), (31,) + (1,) * 32 + (1023,), (17,) + (0, 1) * 16 + (500,)):
            self.assertEqual(play(("inverse", block), made, choices).outcome, 1)

    def test_against_a_count(self):
        block = ("generator", 1, 1, ("1", "0"))
        for goal in (("tell", BLOCK), ("next", BLOCK), ("tell", ("longer", 2, BLOCK)), ("once", ("cut", 2, BLOCK))):
            for breaker in tries(goal, hardbits(block), drawn=1, keen=slice(2, 4)):
                made = inverter(goal, block, breaker)
                expected, _ = chance_and_ways(("inverse", block), made)
                self.assertEqual(chance(("inverse", block), made), (expected.numerator, expected.denominator))


class WrongOnes(unittest.TestCase):
    def refused(self, block):
        for goal in (("tell", BLOCK), ("marks", BLOCK), None):
            for breaker in (ONE, None, ("cut", 1, ONE)):
                with self.assertRaises(BadBlock):
                    inverter(goal, block, breaker)

    def test_two_rows_the_same(self):
        for n in (1, 2, 3, 5):
            rows = strings(n)
            for at in (0, len(rows) // 2, len(rows) - 1):
                self.refused(("generator", n, n, tuple(rows[:at] + [rows[at - 1]] + rows[at + 1:])))
            self.refused(("generator", n, n, (rows[0],) * len(rows)))

    def test_lengths_that_differ(self):
        for n in range(1, 6):
            for m in {1, n - 1, n + 1, 2 * n, 2 * n + 1} - {0, n}:
                self.refused(all_different(n, m) if m > n else generator(n, m))

    def test_n_is_at_most_5(self):
        largest = ("generator", 5, 5, tuple(strings(5)))
        self.assertEqual(inverter(("tell", BLOCK), largest, ONE), ("hard", 5, ("bit", ONE)))
        for n in (6, 7, 10):
            self.refused(("generator", n, n, tuple(strings(n))))

    def test_functions_and_what_is_no_block(self):
        for block in (function(1, 1, 1), ("function", 1, 1, 1, (("0", "1"), ("1", "0"))), function(2, 2, 2)):
            self.refused(block)
        for value in itertools.islice(no_blocks(), 0, None, 11):
            self.refused(value)

    def test_then_the_goal_over_its_hard_bits_then_the_breaker(self):
        block = all_different(2, 2)
        for goal in (("marks", BLOCK), ("tell", ("cut", 6, BLOCK)), ("opening", "00", BLOCK), None, BLOCK,
                     ("tell", ("tree", 1, BLOCK)), ["tell", BLOCK], ("tell", ("counter", 1, BLOCK))):
            for breaker in (ONE, None, over(MADE[0], ONE)):
                with self.assertRaises(BadScheme):
                    inverter(goal, block, breaker)
        for goal in (("tell", BLOCK), ("opening", "00000", BLOCK), ("tell", ("longer", 20, BLOCK)), ("next", BLOCK)):
            for breaker in (None, (), ("say", "1"), over(MADE[0], ONE), ("cut", 1, ONE), ("bit", ONE)):
                with self.assertRaises(BadBreaker):
                    inverter(goal, block, breaker)


if __name__ == "__main__":
    unittest.main()
