"""Promise 3: strings of bits."""

import unittest

from breakback.bits import bits, number_of, parity, xor
from tests.samples import scrambled, strings


class BitsAndNumbers(unittest.TestCase):
    def test_ordinary_strings(self):
        self.assertEqual(bits(4, 6), "0110")
        self.assertEqual(bits(1, 0), "0")
        self.assertEqual(bits(1, 1), "1")
        self.assertEqual(bits(3, 7), "111")
        self.assertEqual(number_of("0110"), 6)
        self.assertEqual(number_of("1000"), 8)
        self.assertEqual(number_of("0001"), 1)

    def test_the_empty_string(self):
        self.assertEqual(bits(0, 0), "")
        self.assertEqual(number_of(""), 0)
        self.assertIs(type(number_of("")), int)

    def test_every_string_of_a_short_length(self):
        for length in range(11):
            self.assertEqual([bits(length, number) for number in range(2 ** length)], strings(length))
            self.assertEqual([number_of(string) for string in strings(length)], list(range(2 ** length)))

    def check_number(self, length, number):
        string = bits(length, number)
        self.assertIs(type(string), str)
        self.assertEqual(len(string), length)
        self.assertEqual(set(string) - {"0", "1"}, set())
        worth = sum(2 ** (length - 1 - at) for at, sign in enumerate(string) if sign == "1")
        self.assertEqual(worth, number)
        self.assertEqual(number_of(string), number)
        self.assertIs(type(number_of(string)), int)

    def test_lengths_to_40_and_200(self):
        for length in [*range(1, 41), 63, 64, 65, 128, 199, 200]:
            numbers = {0, 1, 2 ** length - 1, 2 ** (length - 1), 2 ** (length - 1) - 1, 2 ** length // 3}
            numbers.update(int(scrambled(length, "number", at), 2) for at in range(20))
            for number in sorted(numbers):
                with self.subTest(length=length, number=number):
                    self.check_number(length, number)

    def test_very_long_strings(self):
        self.check_number(20000, 3 ** 5000)

    def test_by_name(self):
        self.assertEqual(bits(length=5, number=3), "00011")
        self.assertEqual(number_of(string="00011"), 3)


class XorAndParity(unittest.TestCase):
    def check_pair(self, first, second):
        differ = "".join("0" if one == two else "1" for one, two in zip(first, second))
        both = len([at for at in range(len(first)) if first[at] == "1" and second[at] == "1"])
        self.assertEqual(xor(first, second), differ)
        self.assertEqual(parity(first, second), both % 2)
        self.assertIs(type(parity(first, second)), int)

    def test_ordinary_strings(self):
        self.assertEqual(xor("0011", "0101"), "0110")
        self.assertEqual(xor("1111", "1111"), "0000")
        self.assertEqual(parity("0011", "0101"), 1)
        self.assertEqual(parity("1111", "1111"), 0)
        self.assertEqual(parity("1110", "0111"), 0)
        self.assertEqual(parity("1000", "1000"), 1)

    def test_empty_strings(self):
        self.assertEqual(xor("", ""), "")
        self.assertEqual(parity("", ""), 0)
        self.assertIs(type(parity("", "")), int)

    def test_all_strings_of_every_length_to_6(self):
        for length in range(7):
            for first in strings(length):
                for second in strings(length):
                    self.check_pair(first, second)

    def test_long_strings(self):
        for length in (8, 33, 40, 64, 65, 200, 5000):
            for at in range(10):
                first, second = scrambled(length, "first", at), scrambled(length, "second", at)
                self.check_pair(first, second)
                self.check_pair(first, first)
                self.check_pair(first, "0" * length)
                self.check_pair("1" * length, second)

    def test_by_name(self):
        self.assertEqual(xor(second="0101", first="0011"), "0110")
        self.assertEqual(parity(second="0101", first="0011"), 1)


if __name__ == "__main__":
    unittest.main()
