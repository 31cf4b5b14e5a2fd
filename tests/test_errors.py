"""The error classes, as DOC.md lists them under breakback/errors.py."""

import unittest

from breakback import errors

DIRECT = ("BadBlock", "BadBreaker", "BadGame", "BadScheme", "BadChoice", "BadMessage", "TooMany", "BadText")


class ErrorClasses(unittest.TestCase):
    def test_the_base_class_is_a_value_error(self):
        self.assertEqual(errors.BreakError.__bases__, (ValueError,))

    def test_the_others_stand_directly_under_it(self):
        for name in DIRECT:
            with self.subTest(name):
                self.assertEqual(getattr(errors, name).__bases__, (errors.BreakError,))

    def test_there_are_no_more(self):
        found = {name for name, thing in vars(errors).items() if isinstance(thing, type)}
        self.assertEqual(found, {"BreakError", *DIRECT})

    def test_the_kinds_of_failure_are_apart(self):
        for first in DIRECT:
            for second in DIRECT:
                if first != second:
                    self.assertFalse(issubclass(getattr(errors, first), getattr(errors, second)), (first, second))

    def test_bad_text_is_made_with_its_place(self):
        for place in (0, 7, 10 ** 30):
            self.assertEqual(errors.BadText(place).place, place)
            self.assertEqual(errors.BadText(place=place).place, place)
        for wrong in ((), (1, 2)):
            with self.assertRaises(TypeError):
                errors.BadText(*wrong)

    def test_bad_text_keeps_its_place_when_it_is_raised(self):
        with self.assertRaises(errors.BreakError) as caught:
            raise errors.BadText(12)
        self.assertEqual(caught.exception.place, 12)


if __name__ == "__main__":
    unittest.main()
