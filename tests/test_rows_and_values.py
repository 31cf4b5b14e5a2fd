"""Promise 4: row_of and value_of."""

import unittest

from breakback.blocks import row_of, value_of
from tests.samples import function, generator, strings


class RowsAndValues(unittest.TestCase):
    def test_written_out(self):
        block = ("generator", 2, 3, ("000", "011", "101", "110"))
        self.assertEqual([row_of(block, string) for string in ("00", "01", "10", "11")], list(block[3]))
        keyed = ("function", 1, 2, 2, (("00", "01", "10", "11"), ("11", "00", "01", "10")))
        self.assertEqual(value_of(keyed, "0", "10"), "10")
        self.assertEqual(value_of(keyed, "1", "10"), "01")
        self.assertEqual(value_of(keyed, "1", "00"), "11")

    def test_all_rows(self):
        for n, m in ((1, 1), (1, 40), (3, 2), (5, 10), (10, 1), (10, 40)):
            block = generator(n, m)
            self.assertEqual([row_of(block, string) for string in strings(n)], list(block[3]))

    def test_all_values(self):
        for n, l, m in ((1, 1, 1), (1, 3, 2), (3, 1, 2), (4, 4, 40), (8, 1, 3), (1, 8, 3)):
            block = function(n, l, m)
            for key, values in zip(strings(n), block[4]):
                self.assertEqual([value_of(block, key, string) for string in strings(l)], list(values))

    def test_some_values_of_the_largest_functions(self):
        for n, l in ((8, 4), (4, 8), (6, 6)):
            block = function(n, l, 40)
            for at, key in list(enumerate(strings(n)))[::5]:
                for place, string in list(enumerate(strings(l)))[::7]:
                    self.assertEqual(value_of(block, key, string), block[4][at][place])

    def test_by_name_and_again(self):
        block, keyed = generator(3, 5), function(2, 3, 4)
        for _ in range(2):
            self.assertEqual(row_of(string="101", block=block), block[3][5])
            self.assertEqual(value_of(string="101", key="10", block=keyed), keyed[4][2][5])


if __name__ == "__main__":
    unittest.main()
