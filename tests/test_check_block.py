"""Promises 2 and 4: what a block is, and that each function that is handed one looks at it first."""

import copy
import unittest

from breakback.blocks import check_block, counter, cut, hardbits, longer, row_of, tree, value_of
from breakback.errors import BadBlock, BadBreaker, BadScheme, BreakError
from tests.samples import bends, function, generator, no_blocks, same_kinds, strings

# Each function of the interface that is handed a block, with further arguments that no bound forbids.
HANDED = (
    (check_block, ()), (row_of, ("0",)), (value_of, ("0", "0")), (longer, (1,)), (tree, (1,)), (counter, (1,)),
    (cut, (1,)), (hardbits, ()),
)
SMALL = (generator(1, 1), generator(1, 2), generator(2, 3), generator(3, 2), function(1, 1, 1), function(2, 1, 2),
         function(1, 2, 3))


class RightBlocks(unittest.TestCase):
    def test_written_out(self):
        self.assertIsNone(check_block(("generator", 1, 2, ("01", "10"))))
        self.assertIsNone(check_block(("generator", 2, 1, ("1", "1", "1", "1"))))
        self.assertIsNone(check_block(("function", 1, 1, 2, (("00", "11"), ("01", "10")))))

    def test_generators_of_all_lengths(self):
        for n in range(1, 11):
            for m in (1, 2, n, n + 1, 2 * n, 39, 40):
                self.assertIsNone(check_block(generator(n, m)), (n, m))

    def test_functions_of_all_lengths(self):
        for n in range(1, 9):
            for l in range(1, min(8, 12 - n) + 1):
                for m in (1, n, 40):
                    self.assertIsNone(check_block(function(n, l, m)), (n, l, m))

    def test_every_generator_and_function_of_single_bits(self):
        for rows in strings(2):
            self.assertIsNone(check_block(("generator", 1, 1, tuple(rows))))
            for others in strings(2):
                self.assertIsNone(check_block(("function", 1, 1, 1, (tuple(rows), tuple(others)))))

    def test_by_name(self):
        self.assertIsNone(check_block(block=generator(2, 3)))


class WrongBlocks(unittest.TestCase):
    def refused(self, value):
        with self.assertRaises(BadBlock) as caught:
            check_block(value)
        self.assertIsInstance(caught.exception, BreakError)
        self.assertIsInstance(caught.exception, ValueError)
        self.assertNotIsInstance(caught.exception, (BadBreaker, BadScheme))

    def test_just_beyond_the_bounds_of_generators(self):
        for n, m in ((0, 1), (11, 1), (1, 0), (10, 0), (1, 41), (10, 41), (0, 0)):
            with self.subTest(n=n, m=m):
                self.refused(generator(n, m))
        self.refused(("generator", -1, 1, ()))
        self.refused(("generator", 1, -1, ("", "")))

    def test_just_beyond_the_bounds_of_functions(self):
        for n, l, m in ((0, 1, 1), (1, 0, 1), (9, 1, 1), (1, 9, 1), (9, 3, 1), (3, 9, 1), (8, 5, 1), (5, 8, 1),
                        (7, 6, 1), (6, 7, 1), (1, 1, 0), (1, 1, 41), (2, 3, 41)):
            with self.subTest(n=n, l=l, m=m):
                self.refused(function(n, l, m))
        self.refused(("function", -1, 1, 1, ()))
        self.refused(("function", 1, -1, 1, ((), ())))

    def test_bent_at_any_one_place(self):
        for block in SMALL:
            self.assertIsNone(check_block(block))
            many = 0
            for bent in bends(block):
                many += 1
                with self.subTest(block=block, number=many):
                    self.refused(bent)
            self.assertGreater(many, 100)

    def test_bent_in_the_last_row_of_a_large_block(self):
        tables = function(8, 4, 40)[4]
        for last in ("0" * 39, "0" * 41, "0" * 39 + "2", " " + "0" * 39, 0, None, True, ["0"] * 40):
            self.refused(("generator", 10, 40, generator(10, 40)[3][:-1] + (last,)))
            self.refused(("function", 8, 4, 40, tables[:-1] + (tables[-1][:-1] + (last,),)))
            self.refused(("function", 8, 4, 40, (tables[0][:-1] + (last,),) + tables[1:]))

    def test_lengths_that_make_up_for_one_another(self):
        self.refused(("generator", 1, 2, ("0", "111")))
        self.refused(("function", 1, 1, 1, (("0",), ("0", "1", "1"))))
        self.refused(("function", 1, 2, 1, (("0", "1"), ("0", "1"), ("0", "1"), ("0", "1"))))
        self.refused(("function", 2, 1, 1, (("0", "1", "0", "1"), ("0", "1", "0", "1"))))
        self.refused(("function", 1, 1, 1, ("00", "11")))
        self.refused(("function", 1, 1, 2, ("01", "10")))

    def test_kinds_that_do_not_match(self):
        self.refused(("function",) + generator(1, 1)[1:])
        self.refused(("generator",) + function(1, 1, 1)[1:])
        self.refused(("longer",) + generator(1, 1)[1:])
        self.refused(("Generator",) + generator(1, 1)[1:])
        self.refused(generator(1, 1) + generator(1, 1))

    def test_true_and_false_are_no_numbers(self):
        self.refused(("generator", True, 1, ("0", "1")))
        self.refused(("generator", 1, True, ("0", "1")))
        self.refused(("function", True, 1, 1, (("0", "1"), ("0", "1"))))
        self.refused(("function", 1, True, 1, (("0", "1"), ("0", "1"))))
        self.refused(("function", 1, 1, True, (("0", "1"), ("0", "1"))))
        self.refused(("generator", False, 1, ("0",)))

    def test_values_of_any_kind(self):
        for number, value in enumerate(no_blocks()):
            with self.subTest(number=number):
                self.refused(value)

    def test_numbers_of_any_size(self):
        for huge in (2 ** 64, 10 ** 5000, -10 ** 5000):
            self.refused(huge)
            self.refused(("generator", huge, 1, ("0", "1")))
            self.refused(("generator", 1, huge, ("0", "1")))
            for at in (1, 2, 3):
                self.refused(function(1, 1, 1)[:at] + (huge,) + function(1, 1, 1)[at + 1:])

    def test_values_nested_very_deep(self):
        for around in (lambda value: (value,), lambda value: [value], lambda value: ("generator", 1, 1, value)):
            deep = ()
            for _ in range(100000):
                deep = around(deep)
            self.refused(deep)
            self.refused((deep, 1, 1, ("0", "1")))
            self.refused(("generator", 1, 1, ("0", deep)))
            self.refused(("function", 1, 1, 1, (("0", deep), ("0", "1"))))


class LookedAtFirst(unittest.TestCase):
    def test_what_is_no_block_is_refused_by_each(self):
        values = [bent for block in SMALL for bent in list(bends(block))[::7]] + list(no_blocks())[::41]
        for asked, further in HANDED:
            for number, value in enumerate(values):
                with self.subTest(asked.__name__, number=number):
                    with self.assertRaises(BadBlock):
                        asked(value, *further)

    def test_whatever_the_strings_are(self):
        for string in ("", "0", "000000", "2", None):
            with self.assertRaises(BadBlock):
                row_of(("generator", 1, 1, ("0", "2")), string)
            with self.assertRaises(BadBlock):
                value_of(("function", 1, 1, 1, (("0", "1"), ("0", 1))), string, string)

    def test_a_fault_at_another_row_than_the_one_asked_for(self):
        with self.assertRaises(BadBlock):
            row_of(("generator", 1, 1, ("0", "01")), "0")
        with self.assertRaises(BadBlock):
            value_of(("function", 1, 1, 1, (("0", "1"), ["0", "1"])), "0", "0")


class NothingIsModified(unittest.TestCase):
    def test_wrong_values_stay_as_they_are(self):
        values = [list(generator(1, 1)), ["generator", 1, 1, ["0", "1"]], ("generator", 1, 1, ["0", "1"]),
                  ("function", 1, 1, 1, (["0", "1"], ["1", "0"])), [["0", ["1"]], [None, True, 1]], []]
        for asked, further in HANDED:
            for value in values:
                before = copy.deepcopy(value)
                for _ in range(2):
                    with self.assertRaises(BadBlock):
                        asked(value, *further)
                    self.assertTrue(same_kinds(value, before))


if __name__ == "__main__":
    unittest.main()
