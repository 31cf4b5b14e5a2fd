"""Promise 5: longer, tree, counter, cut and hardbits, each worked out here apart from the program."""

import copy
import unittest

from breakback.blocks import check_block, counter, cut, hardbits, longer, row_of, tree, value_of
from breakback.errors import BadBlock, BadScheme, BreakError
from tests.samples import function, generator, same_kinds, staying, strings

NO_BLOCK = (None, 7, True, "generator", (), [], list(generator(1, 2)), ("generator", 1, 2, ["00", "11"]),
            ("generator", True, 2, ("00", "11")), ("generator", 1, 2, ("00", "12")), ("generator", 11, 12, ()),
            ("function", 1, 1, 1, (("0", "1"), ("0", 1))))


def longer_row(block, seed, k):
    """The row of a seed in longer(block, k), state by state, in numbers."""
    n, rows = block[1], [int(row, 2) for row in block[3]]
    state, out = int(seed, 2), []
    for _ in range(k):
        led = rows[state]
        out.append(str(led % 2))
        state = led // 2
    return "".join(out) + f"{state:0{n}b}"


def tree_labels(block, key, d):
    """The labels of all places down to depth d, by the bits that lead to them."""
    n, rows = block[1], dict(zip(strings(block[1]), block[3]))
    labels = {"": key}
    for depth in range(d):
        for place in strings(depth):
            row = rows[labels[place]]
            labels[place + "0"] = row[0:n]
            labels[place + "1"] = row[n:2 * n]
    return labels


class LargerBlocks(unittest.TestCase):
    def check_generator(self, block, n, m, row):
        """The block is a right generator of these lengths, with the row that is told for each string."""
        self.assertIsNone(check_block(block))
        self.assertEqual(block[:3], ("generator", n, m))
        for string in strings(n):
            self.assertEqual(row_of(block, string), row(string), string)

    def check_twice(self, asked, block, *further):
        """What is asked leaves the block as it is, and gives the same at another time."""
        before = copy.deepcopy(block)
        first = asked(block, *further)
        self.assertTrue(same_kinds(block, before))
        self.assertTrue(same_kinds(asked(block, *further), first))
        return first


class Longer(LargerBlocks):
    def test_written_out(self):
        block = ("generator", 2, 3, ("011", "100", "111", "010"))
        self.assertEqual(longer(block, 1)[3], ("101", "010", "111", "001"))
        # From state 00: puts out 1 to 01, 0 to 10, 1 to 11.
        self.assertEqual(row_of(longer(block, 3), "00"), "10111")
        self.assertEqual(longer(("generator", 1, 2, ("01", "10")), 3), ("generator", 1, 4, ("1110", "0001")))

    def test_state_by_state(self):
        for n in (1, 2, 3, 4, 5):
            for name in ("one", "two", "three"):
                block = generator(n, n + 1, name)
                for k in range(1, 21):
                    self.check_generator(self.check_twice(longer, block, k), n, n + k,
                                         lambda seed: longer_row(block, seed, k))

    def test_the_longest(self):
        block = generator(10, 11)
        for k in (1, 2, 19, 20):
            self.check_generator(longer(block, k), 10, 10 + k, lambda seed: longer_row(block, seed, k))

    def test_states_that_stay(self):
        for n in (1, 2, 5, 10):
            for k in (1, 2, 7, 20):
                self.check_generator(longer(staying(n), k), n, n + k, lambda seed: seed[-1] * k + seed)
        for led in ("000", "001", "110", "111"):
            block = ("generator", 2, 3, (led,) * 4)
            for k in range(1, 21):
                self.check_generator(longer(block, k), 2, 2 + k, lambda seed: led[2] * k + led[:2])

    def test_every_generator_from_one_bit_to_two(self):
        for first in strings(2):
            for second in strings(2):
                block = ("generator", 1, 2, (first, second))
                for k in (1, 2, 3, 20):
                    self.check_generator(longer(block, k), 1, 1 + k, lambda seed: longer_row(block, seed, k))

    def test_a_generator_that_is_tree_s_too(self):
        block = generator(1, 2)
        self.assertEqual(longer(block=block, k=4), longer(block, 4))


class Tree(LargerBlocks):
    def check_tree(self, block, d):
        n = block[1]
        made = self.check_twice(tree, block, d)
        self.assertIsNone(check_block(made))
        self.assertEqual(made[:4], ("function", n, d, n))
        for at, key in enumerate(strings(n)):
            labels = tree_labels(block, key, d)
            self.assertEqual(made[4][at], tuple(labels[x] for x in strings(d)))
        return made

    def check_all_values(self, block, d):
        made = self.check_tree(block, d)
        for key in strings(block[1]):
            labels = tree_labels(block, key, d)
            for x in strings(d):
                self.assertEqual(value_of(made, key, x), labels[x], (key, x))

    def test_written_out(self):
        block = ("generator", 2, 4, ("0111", "1000", "0001", "1110"))
        self.assertEqual(tree(block, 1)[4], (("01", "11"), ("10", "00"), ("00", "01"), ("11", "10")))
        self.assertEqual(tree(block, 2)[4][0], ("10", "00", "11", "10"))
        self.assertEqual(value_of(tree(block, 3), "00", "010"), "01")

    def test_place_by_place(self):
        for n in (1, 2, 3, 4):
            for name in ("one", "two"):
                for d in (1, 2, 3, 4):
                    self.check_all_values(generator(n, 2 * n, name), d)

    def test_one_bit_to_depth_8(self):
        for first in strings(2):
            for second in strings(2):
                for d in range(1, 9):
                    self.check_tree(("generator", 1, 2, (first, second)), d)
        self.check_all_values(("generator", 1, 2, ("10", "11")), 8)

    def test_at_the_bounds(self):
        for n, d in ((4, 8), (8, 4), (5, 7), (7, 5), (6, 6), (8, 1)):
            self.check_tree(generator(n, 2 * n), d)

    def test_by_name(self):
        self.assertEqual(tree(d=3, block=generator(2, 4)), tree(generator(2, 4), 3))


class Counter(LargerBlocks):
    def check_counter(self, block, c):
        values = dict(zip(strings(block[1]), block[4]))
        self.check_generator(self.check_twice(counter, block, c), block[1], c * block[3],
                             lambda key: "".join(values[key][at] for at in range(c)))

    def test_written_out(self):
        block = ("function", 1, 2, 2, (("00", "01", "10", "11"), ("11", "10", "00", "01")))
        self.assertEqual(counter(block, 1), ("generator", 1, 2, ("00", "11")))
        self.assertEqual(counter(block, 3), ("generator", 1, 6, ("000110", "111000")))
        self.assertEqual(counter(block, 4), ("generator", 1, 8, ("00011011", "11100001")))

    def test_every_count(self):
        for n, l, m in ((1, 1, 1), (2, 1, 3), (3, 2, 4), (2, 3, 5), (4, 4, 2), (8, 4, 2), (5, 2, 10)):
            for c in range(1, 2 ** l + 1):
                self.check_counter(function(n, l, m), c)

    def test_at_the_bound_of_40_bits(self):
        for l, m, c in ((1, 40, 1), (1, 20, 2), (2, 10, 4), (3, 5, 8), (6, 1, 40), (8, 1, 40), (8, 2, 20), (8, 3, 13)):
            self.check_counter(function(2, l, m), c)

    def test_by_name(self):
        self.assertEqual(counter(c=3, block=function(2, 2, 4)), counter(function(2, 2, 4), 3))


class Cut(LargerBlocks):
    def test_written_out(self):
        block = ("generator", 1, 3, ("011", "100"))
        self.assertEqual(cut(block, 1), ("generator", 1, 1, ("0", "1")))
        self.assertEqual(cut(block, 2), ("generator", 1, 2, ("01", "10")))
        self.assertEqual(cut(block, 3), block)

    def test_every_count(self):
        for n, m in ((1, 1), (1, 40), (2, 5), (3, 3), (5, 12), (10, 40)):
            block = generator(n, m)
            rows = dict(zip(strings(n), block[3]))
            for b in range(1, m + 1) if n < 10 else (1, 39, 40):
                self.check_generator(self.check_twice(cut, block, b), n, b,
                                     lambda seed: "".join(rows[seed][at] for at in range(b)))

    def test_by_name(self):
        self.assertEqual(cut(b=3, block=generator(2, 4)), cut(generator(2, 4), 3))


class Hardbits(LargerBlocks):
    def check_hardbits(self, block):
        n, m, rows = block[1], block[2], dict(zip(strings(block[1]), block[3]))

        def row(string):
            x, r = string[:n], string[n:]
            both = sum(int(x[at]) * int(r[at]) for at in range(n))
            return rows[x] + r + "01"[both % 2]

        self.check_generator(self.check_twice(hardbits, block), 2 * n, m + n + 1, row)

    def test_written_out(self):
        block = ("generator", 1, 2, ("01", "11"))
        self.assertEqual(hardbits(block), ("generator", 2, 4, ("0100", "0110", "1100", "1111")))

    def test_place_by_place(self):
        for n in range(1, 6):
            for m in (1, 2, n, 2 * n, 39 - n):
                self.check_hardbits(generator(n, m))

    def test_by_name(self):
        self.assertEqual(hardbits(block=generator(2, 4)), hardbits(generator(2, 4)))


class OneOverAnother(LargerBlocks):
    def test_what_is_built_is_a_block_again(self):
        block = generator(2, 4)
        stretched = longer(cut(block, 3), 6)
        self.assertIsNone(check_block(stretched))
        self.assertIsNone(check_block(counter(tree(block, 3), 8)))
        self.assertIsNone(check_block(tree(cut(stretched, 4), 5)))
        self.assertIsNone(check_block(cut(hardbits(stretched), 11)))


class WhatDoesNotFit(unittest.TestCase):
    def refused(self, asked, *arguments):
        with self.assertRaises(BadScheme) as caught:
            asked(*arguments)
        self.assertIsInstance(caught.exception, BreakError)
        self.assertNotIsInstance(caught.exception, BadBlock)

    def test_what_is_no_block_comes_first(self):
        for value in NO_BLOCK:
            for asked in (longer, tree, counter, cut):
                for number in (-1, 0, 1, 2, 21, 10 ** 30, True, None, "1", (1,)):
                    with self.subTest(asked.__name__, value=value, number=number):
                        with self.assertRaises(BadBlock):
                            asked(value, number)
            with self.assertRaises(BadBlock):
                hardbits(value)

    def test_blocks_of_the_other_kind(self):
        for asked in (longer, tree, cut):
            self.refused(asked, function(1, 1, 1), 1)
            self.refused(asked, function(2, 1, 3), 1)
            self.refused(asked, function(2, 2, 4), 1)
        self.refused(hardbits, function(1, 1, 2))
        for block in (generator(1, 1), generator(2, 4), generator(3, 4)):
            self.refused(counter, block, 1)

    def test_generators_of_other_lengths(self):
        for n in range(1, 11):
            for m in range(1, 25):
                if m != n + 1:
                    self.refused(longer, generator(n, m), 1)
                if m != 2 * n:
                    self.refused(tree, generator(n, m), 1)

    def test_longer_takes_1_to_20(self):
        for n in (1, 2, 4, 10):
            for k in (0, -1, 21, 22, 39 - n, 40 - n, 10 ** 30):
                if not 1 <= k <= 20:
                    self.refused(longer, generator(n, n + 1), k)

    def test_tree_takes_lengths_and_depths_to_8_and_together_to_12(self):
        for n in range(1, 11):
            block = generator(n, 2 * n)
            for d in (0, -1, 9, 10, 11, 12 - n, 13 - n, 14 - n, 10 ** 30):
                if n <= 8 and 1 <= d <= 8 and n + d <= 12:
                    self.assertIsNone(check_block(tree(block, d)))
                else:
                    self.refused(tree, block, d)
            if n > 8:
                self.refused(tree, block, 1)

    def test_counter_takes_1_to_2_to_the_l(self):
        for n, l in ((1, 1), (3, 1), (2, 2), (2, 3), (1, 5)):
            for c in (0, -1, 2 ** l + 1, 2 ** l + 2, 10 ** 30):
                self.refused(counter, function(n, l, 1), c)

    def test_counter_takes_no_more_than_40_bits(self):
        for l, m, c in ((1, 40, 2), (1, 21, 2), (2, 11, 4), (2, 14, 3), (3, 6, 7), (6, 1, 41), (8, 1, 41), (8, 1, 256),
                        (8, 2, 21), (8, 3, 14)):
            self.assertLessEqual(c, 2 ** l)
            self.refused(counter, function(1, l, m), c)

    def test_cut_takes_1_to_m(self):
        for n, m in ((1, 1), (2, 5), (4, 39), (3, 40)):
            for b in (0, -1, m + 1, m + 2, 10 ** 30):
                self.refused(cut, generator(n, m), b)

    def test_hardbits_takes_n_to_5_and_no_more_than_40_bits(self):
        for n in range(1, 11):
            for m in (1, n, 38 - n, 39 - n, 40 - n, 40):
                if n <= 5 and m + n + 1 <= 40:
                    self.assertIsNone(check_block(hardbits(generator(n, m))))
                else:
                    self.refused(hardbits, generator(n, m))

    def test_true_and_other_values_are_no_numbers(self):
        for wrong in (True, False, None, "1", "", (), (1,), [1]):
            self.refused(longer, generator(1, 2), wrong)
            self.refused(tree, generator(1, 2), wrong)
            self.refused(counter, function(1, 1, 1), wrong)
            self.refused(cut, generator(1, 2), wrong)

    def test_no_block_is_modified_by_a_refusal(self):
        block, keyed = generator(1, 2), function(1, 1, 1)
        for asked, handed in ((longer, block), (tree, block), (counter, keyed), (cut, block)):
            before = copy.deepcopy(handed)
            for _ in range(2):
                self.refused(asked, handed, 99)
            self.assertTrue(same_kinds(handed, before))


if __name__ == "__main__":
    unittest.main()
