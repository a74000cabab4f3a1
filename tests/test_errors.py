"""errors.py: each refusal is a RoomError, which is a ValueError."""

import unittest

from roomprices import errors

NAMES = ["BadTable", "BadRent", "BadGiving", "BadPrices", "BadRoom", "NoPrices"]


class Errors(unittest.TestCase):
    def test_room_error_is_straight_under_value_error(self):
        self.assertEqual(errors.RoomError.__bases__, (ValueError,))

    def test_each_refusal_is_straight_under_room_error(self):
        for name in NAMES:
            self.assertEqual(getattr(errors, name).__bases__, (errors.RoomError,), name)

    def test_each_can_be_raised_with_words_and_caught_as_a_room_error(self):
        for name in NAMES:
            with self.assertRaises(errors.RoomError) as caught:
                raise getattr(errors, name)("words")
            self.assertEqual(str(caught.exception), "words")


if __name__ == "__main__":
    unittest.main()
