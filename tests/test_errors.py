"""Point 00.3: the errors."""

import unittest

from kraftroom import errors
from kraftroom.errors import InvalidBlock, InvalidWord, KraftroomError, Truncated, Undecided

DERIVED = [Truncated, InvalidWord, Undecided, InvalidBlock]


class ErrorClasses(unittest.TestCase):
    def test_base_class_is_a_value_error(self):
        self.assertEqual(KraftroomError.__bases__, (ValueError,))

    def test_others_derive_directly_from_the_base_alone(self):
        for error in DERIVED:
            with self.subTest(error=error.__name__):
                self.assertEqual(error.__bases__, (KraftroomError,))

    def test_there_are_no_other_classes(self):
        found = sorted(name for name, worth in vars(errors).items() if isinstance(worth, type))
        self.assertEqual(found, ["InvalidBlock", "InvalidWord", "KraftroomError", "Truncated", "Undecided"])

    def test_place_is_the_one_given(self):
        for error in [KraftroomError] + DERIVED:
            for place in (0, 1, 7, 123456789):
                with self.subTest(error=error.__name__, place=place):
                    self.assertEqual(error(place).place, place)
                    self.assertIs(type(error(place).place), int)
                    self.assertEqual(error(place=place).place, place)

    def test_name_is_the_name_of_the_class(self):
        self.assertEqual(KraftroomError(3).name, "KraftroomError")
        self.assertEqual(Truncated(3).name, "Truncated")
        self.assertEqual(InvalidWord(3).name, "InvalidWord")
        self.assertEqual(Undecided(3).name, "Undecided")
        self.assertEqual(InvalidBlock(3).name, "InvalidBlock")

    def test_place_is_needed(self):
        for error in [KraftroomError] + DERIVED:
            with self.assertRaises(TypeError):
                error()

    def test_they_are_raised_and_caught(self):
        for error in DERIVED:
            with self.subTest(error=error.__name__):
                with self.assertRaises(KraftroomError) as caught:
                    raise error(5)
                self.assertIs(type(caught.exception), error)
                self.assertEqual([caught.exception.name, caught.exception.place], [error.__name__, 5])

    def test_one_does_not_catch_another(self):
        for error in DERIVED:
            for other in DERIVED:
                self.assertEqual(issubclass(error, other), error is other)


if __name__ == "__main__":
    unittest.main()
