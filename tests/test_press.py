"""Promise 23: chain and collide, worked out here in numbers."""

import copy
import itertools
import unittest

from breakback.errors import BadBlock, BadMessage, BreakError
from breakback.press import chain, collide
from tests.sample_attacks import all_messages
from tests.samples import function, generator, no_blocks, same_kinds, scrambled, strings

PRESSES = [generator(2 * n, n, name) for n in (1, 2, 3) for name in range(3)]


def told(press, message):
    """The states and blocks that the chain puts in, in numbers, then the last state and the blocks of the number."""
    _, _, n, rows = press
    base = 2 ** n
    blocks = [int(message[at:at + n], 2) for at in range(0, len(message), n)]
    left, many = len(blocks), 0
    while left:
        blocks.append(left % base)
        left, many = left // base, many + 1
    put_in, state = [], 0
    for block in blocks:
        put_in.append(state * base + block)
        state = int(rows[put_in[-1]], 2)
    return put_in, f"{state:0{n}b}", many


def nearest(press, first, second):
    """The pair of unlike strings with one row that stands nearest to the end, looked for from the end on."""
    one, other = told(press, first)[0], told(press, second)[0]
    n, rows = press[2], press[3]
    for ahead in range(1, min(len(one), len(other)) + 1):
        if one[-ahead] != other[-ahead] and rows[one[-ahead]] == rows[other[-ahead]]:
            return tuple(f"{number:0{2 * n}b}" for number in (one[-ahead], other[-ahead]))
    return None


class Chain(unittest.TestCase):
    def check(self, press, message):
        found = chain(press, message)
        _, state, many = told(press, message)
        self.assertTrue(same_kinds(found, (state, many)), (press, message))
        return found

    def test_written_out(self):
        press = ("generator", 2, 1, ("1", "0", "0", "1"))
        # The row is 1 where both bits are the same: 0 0 is 1, then the number 1 in one block: 1 1 is 1.
        self.assertEqual(chain(press, "0"), ("1", 1))
        self.assertEqual(chain(press, "1"), ("0", 1))
        # 3 is written 1 1, 2 is written 0 1, the lowest first: from the state 0 on the states are 1 and 1.
        self.assertEqual(chain(press, "00"), ("1", 2))
        self.assertEqual(chain(press, "000"), ("1", 2))
        last = ("generator", 4, 2, tuple(string[2:] for string in strings(4)))
        self.assertEqual(chain(last, "00" * 4), ("01", 2))
        self.assertEqual(chain(last, "00" * 3), ("11", 1))
        self.assertEqual(chain(last, "11" * 6), ("01", 2))

    def test_all_short_messages(self):
        for press in PRESSES:
            for message in all_messages(press[2], 9):
                self.check(press, message)

    def test_numbers_of_blocks_about_the_powers(self):
        for press in PRESSES + [generator(8, 4), generator(10, 5)]:
            n = press[2]
            for power in range(1, 4):
                for many in range(max(1, 2 ** (n * power) - 2), 2 ** (n * power) + 3):
                    if many < 1100:
                        found = self.check(press, scrambled(n * many, press[:3], many))
                        self.assertEqual(found[1], -(-many.bit_length() // n))

    def test_each_number_of_blocks(self):
        for press in PRESSES[::3]:
            for many in range(1, 300):
                self.check(press, scrambled(press[2] * many, "many", many))

    def test_long_messages(self):
        for press in PRESSES[::3] + [generator(10, 5)]:
            self.check(press, scrambled(press[2] * 20000, "long"))

    def test_by_name(self):
        self.assertEqual(chain(message="01", block=PRESSES[0]), chain(PRESSES[0], "01"))


class Collide(unittest.TestCase):
    def check(self, press, first, second):
        """What collide gives for two messages is as told, in either order."""
        found = collide(press, first, second)
        expected = nearest(press, first, second)
        self.assertTrue(same_kinds(found, expected), (press, first, second))
        self.assertTrue(same_kinds(collide(press, second, first), expected[::-1]))
        one, other = found
        self.assertNotEqual(one, other)
        self.assertEqual(press[3][int(one, 2)], press[3][int(other, 2)])

    def test_written_out(self):
        press = ("generator", 2, 1, ("0", "0", "1", "1"))
        # All rows are the state: it stays 0, so that only the blocks differ.
        self.assertEqual(collide(press, "0", "1"), ("00", "01"))
        self.assertEqual(collide(press, "000", "101"), ("00", "01"))
        self.assertEqual(collide(press, "01", "10"), ("01", "00"))
        self.assertEqual(collide(press, "00", "000"), ("00", "01"))
        last = ("generator", 4, 2, tuple(string[2:] for string in strings(4)))
        self.assertEqual(collide(last, "0001", "0101"), ("0001", "0101"))
        self.assertEqual(collide(last, "0000", "0001"), ("0010", "0110"))

    def test_all_short_messages(self):
        alike = longer = 0
        for press in PRESSES:
            found = {}
            for message in all_messages(press[2], 6):
                found.setdefault(chain(press, message), []).append(message)
            for messages in found.values():
                for first, second in itertools.islice(itertools.combinations(messages, 2), 0, 3000, 3):
                    self.check(press, first, second)
                    alike += len(first) == len(second)
                    longer += len(first) != len(second)
        self.assertGreater(min(alike, longer), 1000)

    def test_unlike_lengths_with_one_value(self):
        # The numbers have as many blocks, and differ in one of them.
        for press in PRESSES:
            n = press[2]
            for one, other in ((2, 3), (4, 7), (5, 6), (9, 8), (16, 31), (70, 100)):
                texts = [[scrambled(n * many, "unlike", many, name) for name in range(12)] for many in (one, other)]
                for first, second in itertools.product(*texts):
                    if chain(press, first) == chain(press, second):
                        self.check(press, first, second)

    def test_messages_that_differ_only_far_ahead_of_the_end(self):
        for n in (1, 2, 3):
            # All strings of one last half have one row, so that the states are the same from the second block on.
            press = ("generator", 2 * n, n, tuple(string[n:] for string in strings(2 * n)))
            tail = scrambled(n * 3000, "tail")
            for first, second in itertools.permutations(strings(n)[:3], 2):
                self.check(press, first + "0" * n + tail, second + "0" * n + tail)
                self.check(press, "0" * n * 5 + first + "0" * n + tail, "0" * n * 5 + second + "0" * n + tail)
                self.check(press, first * 2 + tail, second * 2 + tail)

    def test_of_several_pairs_the_one_nearest_to_the_end(self):
        # All rows are the same: each unlike pair that is put in will do.
        press = ("generator", 4, 2, ("10",) * 16)
        self.assertEqual(collide(press, "000000", "111111"), ("1000", "1011"))
        self.assertEqual(collide(press, "000001", "111101"), ("1000", "1011"))
        self.assertEqual(collide(press, "0001" * 2, "1101" * 2), ("1000", "1011"))
        self.assertEqual(collide(press, "000101", "110101"), ("0000", "0011"))
        self.assertEqual(collide(press, "01" * 5, "01" * 6), ("1001", "1010"))
        for many, other in ((4, 8), (5, 9), (4, 15), (16, 17)):
            self.check(press, "01" * many, "01" * other)

    def test_by_name(self):
        press = ("generator", 2, 1, ("0", "0", "1", "1"))
        self.assertEqual(collide(second="1", first="0", block=press), ("00", "01"))


class WrongOnes(unittest.TestCase):
    def refused(self, error, asked, *arguments):
        with self.assertRaises(error) as caught:
            asked(*arguments)
        self.assertIsInstance(caught.exception, BreakError)

    def test_blocks_that_are_no_press_come_first(self):
        wrong = [generator(n, m) for n in range(1, 11) for m in range(1, 12) if n != 2 * m]
        wrong += [function(2, 2, 1), function(2, 1, 1), function(4, 2, 2)]
        wrong += list(itertools.islice(no_blocks(), 0, None, 11))
        for block in wrong:
            for message in ("0", "0011", "", "2", None):
                self.refused(BadBlock, chain, block, message)
                self.refused(BadBlock, collide, block, message, message)
                self.refused(BadBlock, collide, block, message, "01")

    def test_messages_that_are_none(self):
        for press in PRESSES:
            n = press[2]
            right = "01" * n
            wrong = ["", "2" * n, "0" * (n - 1) + "a", " " * n, "0" * (n - 1) + "\n", "-" + "0" * (2 * n - 1),
                     "0" * n + "_" * n, "0" * n + "\u0661" * n, "+" + "1" * (n - 1), "0" * n + "x" * n + "0" * n,
                     None, 0, 1, True, (), ("0",) * n, ["0"] * n]
            wrong += ["0" * length for length in range(20) if length % n]
            for message in wrong:
                self.refused(BadMessage, chain, press, message)
                self.refused(BadMessage, collide, press, message, right)
                self.refused(BadMessage, collide, press, right, message)
                self.refused(BadMessage, collide, press, message, message)

    def test_messages_that_are_the_same_or_have_other_values(self):
        for press in PRESSES:
            n = press[2]
            unlike = 0
            for first, second in itertools.product(all_messages(n, 2 * n), repeat=2):
                if first == second or chain(press, first) != chain(press, second):
                    self.refused(BadMessage, collide, press, first, second)
                    unlike += first != second
            self.assertGreater(unlike, 0)

    def test_one_state_with_numbers_in_unlike_many_blocks(self):
        for n in (1, 2, 3):
            press = ("generator", 2 * n, n, ("0" * n,) * 4 ** n)
            first, second = "0" * n * (2 ** n - 1), "0" * n * 2 ** n
            self.assertEqual(chain(press, first)[0], chain(press, second)[0])
            self.refused(BadMessage, collide, press, first, second)
            self.refused(BadMessage, collide, press, second, first)

    def test_no_block_is_modified(self):
        for press in PRESSES:
            before = copy.deepcopy(press)
            for _ in range(2):
                self.assertEqual(chain(press, "001011"), chain(before, "001011"))
                self.refused(BadMessage, chain, press, "")
            self.assertTrue(same_kinds(press, before))


if __name__ == "__main__":
    unittest.main()
