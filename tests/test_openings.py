"""Promise 24: the strings under which a commitment can be opened both ways."""

import copy
import itertools
import unittest

from breakback.errors import BadBlock, BreakError
from breakback.openings import double_openings
from tests.samples import every_generator, function, generator, no_blocks, same_kinds, strings


def differ(first, second):
    return "".join("01"[one != two] for one, two in zip(first, second))


class Openings(unittest.TestCase):
    def check(self, block):
        _, n, m, rows = block
        found = double_openings(block)
        self.assertIs(type(found), list)
        self.assertEqual(found, sorted({differ(first, second) for first in rows for second in rows}))
        self.assertEqual(found[0], "0" * m)
        self.assertLessEqual(len(found), 2 ** n * (2 ** n - 1) // 2 + 1)
        return len(found)

    def test_written_out(self):
        self.assertEqual(double_openings(("generator", 1, 3, ("011", "110"))), ["000", "101"])
        self.assertEqual(double_openings(("generator", 1, 3, ("011", "011"))), ["000"])
        self.assertEqual(double_openings(("generator", 2, 4, ("0001", "0010", "0100", "1000"))),
                         ["0000", "0011", "0101", "0110", "1001", "1010", "1100"])
        self.assertEqual(double_openings(("generator", 2, 2, ("01", "01", "10", "01"))), ["00", "11"])

    def test_every_small_one(self):
        for n, m in ((1, 1), (1, 2), (1, 3), (2, 1), (2, 2)):
            for block in every_generator(n, m):
                self.check(block)

    def test_every_r_is_one_for_which_a_row_is_another_one_turned(self):
        block = generator(3, 5)
        for r in strings(5):
            twice = any(differ(row, r) in block[3] for row in block[3])
            self.assertEqual(r in double_openings(block), twice)

    def test_larger_ones(self):
        for n in range(1, 7):
            for m in (1, n, n + 3, 3 * n, 40):
                self.check(generator(n, m))

    def test_as_many_as_there_can_be(self):
        for n in (1, 2, 3, 4, 5):
            self.assertEqual(self.check(generator(n, 40)), 2 ** n * (2 ** n - 1) // 2 + 1)

    def test_rows_that_are_alike(self):
        for n in (1, 2, 5):
            self.assertEqual(self.check(("generator", n, 3, ("101",) * 2 ** n)), 1)
            self.assertEqual(self.check(("generator", n, 3, ("101", "100") * 2 ** (n - 1))), 2)
        rows = strings(5)
        self.assertEqual(self.check(("generator", 5, 5, tuple(rows))), 32)
        self.assertEqual(self.check(("generator", 5, 5, tuple(rows[:4] * 8))), 4)

    def test_the_largest(self):
        found = double_openings(generator(10, 40))
        self.assertEqual(len(found), 1024 * 1023 // 2 + 1)
        self.assertEqual(found, sorted(found))
        self.assertEqual(double_openings(("generator", 10, 10, tuple(strings(10)))), strings(10))

    def test_the_list_belongs_to_the_caller(self):
        block = generator(2, 5)
        before = copy.deepcopy(block)
        found = double_openings(block)
        kept = list(found)
        found.clear()
        self.assertEqual(double_openings(block=block), kept)
        self.assertTrue(same_kinds(block, before))

    def test_functions_and_what_is_no_block(self):
        for block in (function(1, 1, 1), function(2, 1, 3), function(2, 2, 2),
                      *itertools.islice(no_blocks(), 0, None, 11)):
            with self.assertRaises(BadBlock) as caught:
                double_openings(block)
            self.assertIsInstance(caught.exception, BreakError)


if __name__ == "__main__":
    unittest.main()
