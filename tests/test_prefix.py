"""Points 00.2 and 01.1 to 01.4: prefix codes."""

import unittest

from kraftroom.errors import InvalidWord, KraftroomError, Truncated
from kraftroom.prefix import is_code, read_symbols, room, words, write_symbols
from tests import reference

WHOLE = 1 << 20
FULL_64 = [6] * 64
# 13 words of the lengths 1 to 13 leave room for 128 words of length 20.
DEEP_64 = [20] * 30 + list(range(13, 0, -1)) + [20] * 21
SMALL_CODES = [lengths for size in (1, 2, 3) for lengths in reference.all_lengths(size, 3)
               if reference.belongs_to_code(lengths)]


class Room(unittest.TestCase):
    def test_examples_of_the_interface(self):
        self.assertEqual([room([1, 1]), room([1, 2]) == 1 << 18], [0, True])

    def test_room_0(self):
        for lengths in ([1, 1], [1, 2, 2], [2, 2, 2, 2], [3, 1, 0, 3, 2], FULL_64, list(range(1, 21)) + [20]):
            with self.subTest(lengths=lengths):
                self.assertEqual(room(lengths), 0)
                self.assertIs(is_code(lengths), True)

    def test_room_left(self):
        self.assertEqual(room([2, 0, 1, 3]), 1 << 17)
        self.assertEqual(room([3, 3, 3]), 5 << 17)
        self.assertEqual(room(list(range(1, 21))), 1)
        for lengths in ([2, 0, 1, 3], [3, 3, 3], list(range(1, 21)), DEEP_64):
            with self.subTest(lengths=lengths):
                self.assertIs(is_code(lengths), True)

    def test_negative_room(self):
        self.assertEqual(room([1, 1, 1]), -(1 << 19))
        self.assertEqual(room([1, 1, 20]), -1)
        self.assertEqual(room([1] * 64), WHOLE - 64 * (1 << 19))
        self.assertEqual(room(FULL_64[1:] + [5]), -(1 << 14))
        for lengths in ([1, 1, 1], [1, 1, 20], [1] * 64, FULL_64[1:] + [5], [0, 1, 2, 0, 2, 20]):
            with self.subTest(lengths=lengths):
                self.assertIs(is_code(lengths), False)

    def test_all_lengths_0(self):
        for size in (1, 2, 64):
            self.assertEqual(room([0] * size), WHOLE)
            self.assertIs(is_code([0] * size), False)

    def test_some_lengths_0(self):
        self.assertEqual(room([0, 1, 0]), 1 << 19)
        self.assertIs(is_code([0, 1, 0]), True)
        self.assertEqual(room([0] * 63 + [20]), WHOLE - 1)
        self.assertIs(is_code([0] * 63 + [20]), True)

    def test_length_20(self):
        self.assertEqual(room([20]), WHOLE - 1)
        self.assertIs(is_code([20]), True)
        self.assertEqual(room([19, 20, 20]), WHOLE - 4)

    def test_one_symbol(self):
        for length in range(1, 21):
            self.assertEqual(room([length]), WHOLE - 2 ** (20 - length))
            self.assertIs(is_code([length]), True)
        self.assertIs(is_code([0]), False)

    def test_64_symbols(self):
        self.assertEqual(room([20] * 64), WHOLE - 64)
        self.assertEqual(room([7] * 64), 1 << 19)
        self.assertEqual(room(DEEP_64), 128 - 51)
        self.assertIs(is_code([20] * 64), True)

    def test_all_small_lists(self):
        for size in (1, 2, 3, 4):
            for lengths in reference.all_lengths(size, 4):
                self.assertEqual(room(lengths), WHOLE - WHOLE * reference.share(lengths))
                self.assertIs(is_code(lengths), reference.belongs_to_code(lengths))


class Words(unittest.TestCase):
    def test_example_of_the_interface(self):
        self.assertEqual(words([2, 0, 1, 3]), [[1, 0], None, [0], [1, 1, 0]])

    def test_order_is_length_then_symbol(self):
        self.assertEqual(words([2, 2, 2]), [[0, 0], [0, 1], [1, 0]])
        self.assertEqual(words([3, 2, 3, 2]), [[1, 0, 0], [0, 0], [1, 0, 1], [0, 1]])
        self.assertEqual(words([4, 1]), [[1, 0, 0, 0], [0]])

    def test_symbols_without_a_word(self):
        self.assertEqual(words([0, 1, 0, 1, 0]), [None, [0], None, [1], None])

    def test_one_symbol(self):
        self.assertEqual(words([1]), [[0]])
        self.assertEqual(words([20]), [[0] * 20])

    def test_length_20(self):
        found = words(list(range(1, 21)) + [20])
        self.assertEqual(found, [[1] * n + [0] for n in range(20)] + [[1] * 20])

    def test_64_symbols(self):
        expected = [[int(bit) for bit in format(symbol, "06b")] for symbol in range(64)]
        self.assertEqual(words(FULL_64), expected)
        self.assertEqual(words([0] * 63 + [2]), [None] * 63 + [[0, 0]])

    def test_all_small_codes(self):
        for size in (1, 2, 3, 4):
            for lengths in reference.all_lengths(size, 4):
                if reference.belongs_to_code(lengths):
                    self.assertEqual(words(lengths), reference.code_words(lengths))

    def test_no_word_begins_another(self):
        for lengths in (FULL_64, DEEP_64, [20] * 64, list(range(1, 21)) + [20]):
            found = words(lengths)
            self.assertEqual([len(word) for word in found], lengths)
            for at, word in enumerate(found):
                for other in found[:at] + found[at + 1:]:
                    self.assertNotEqual(other[:len(word)], word)


class Write(unittest.TestCase):
    def test_words_one_after_the_other(self):
        self.assertEqual(write_symbols([2, 0, 1, 3], [3, 2, 0, 2]), [1, 1, 0, 0, 1, 0, 0])
        self.assertEqual(write_symbols([1, 1], [1, 0, 0, 1, 1]), [1, 0, 0, 1, 1])

    def test_empty_message(self):
        self.assertEqual(write_symbols([2, 0, 1, 3], []), [])

    def test_64_symbols(self):
        expected = [bit for symbol in range(64) for bit in reference.code_words(FULL_64)[symbol]]
        self.assertEqual(write_symbols(FULL_64, list(range(64))), expected)


class Read(unittest.TestCase):
    def assert_error(self, error, place, lengths, bits, at, count):
        with self.assertRaises(KraftroomError) as caught:
            read_symbols(lengths, bits, at, count)
        told = caught.exception
        self.assertEqual((type(told), told.place, told.name), (error, place, error.__name__))

    def test_example_of_the_interface(self):
        self.assertEqual(read_symbols([2, 0, 1, 3], [1, 0, 0, 1], 0, 2), ([0, 2], 3))

    def test_kinds_of_values(self):
        found = read_symbols([1, 1], [0, 1], 0, 2)
        self.assertIs(type(found), tuple)
        self.assertEqual([type(part) for part in found], [list, int])

    def test_bits_before_and_behind(self):
        for lengths in ([2, 0, 1, 3], [1, 1], [20], [0, 3, 3, 2, 1]):
            known = [symbol for symbol, length in enumerate(lengths) if length]
            message = (known * 5)[::-1] + known
            bits = write_symbols(lengths, message)
            for before in ([], [0], [1], [1, 1, 0, 1, 0]):
                for behind in ([], [0], [1, 1, 1, 1]):
                    found = read_symbols(lengths, before + bits + behind, len(before), len(message))
                    self.assertEqual(found, (message, len(before) + len(bits)))

    def test_reads_no_more_than_count(self):
        bits = write_symbols([2, 0, 1, 3], [0, 3, 2, 2])
        self.assertEqual(read_symbols([2, 0, 1, 3], bits, 0, 1), ([0], 2))
        self.assertEqual(read_symbols([2, 0, 1, 3], bits, 2, 1), ([3], 5))
        self.assertEqual(read_symbols([2, 0, 1, 3], bits, 2, 2), ([3, 2], 6))

    def test_count_0(self):
        for bits in ([], [1], [1, 1, 1]):
            for at in range(len(bits) + 1):
                self.assertEqual(read_symbols([2, 0, 1, 3], bits, at, 0), ([], at))

    def test_bounds_of_the_alphabet(self):
        for lengths in (FULL_64, DEEP_64, [20] * 64):
            message = list(range(64)) + list(range(63, -1, -1))
            bits = [1] + write_symbols(lengths, message) + [0]
            self.assertEqual(read_symbols(lengths, bits, 1, 128), (message, len(bits) - 1))

    def test_invalid_word_at_the_first_bit_of_the_symbol(self):
        self.assert_error(InvalidWord, 0, [2, 0, 1, 3], [1, 1, 1], 0, 1)
        self.assert_error(InvalidWord, 3, [2, 0, 1, 3], [1, 0, 0, 1, 1, 1, 0], 0, 3)
        self.assert_error(InvalidWord, 2, [2, 0, 1, 3], [0, 0, 1, 1, 1], 2, 1)
        self.assert_error(InvalidWord, 0, DEEP_64, [1] * 20, 0, 1)

    def test_invalid_word_comes_as_soon_as_no_word_begins_so(self):
        # the bits end right behind the one that decides
        self.assert_error(InvalidWord, 0, [20], [1], 0, 1)
        self.assert_error(InvalidWord, 1, [0, 5], [0, 0, 0, 1], 1, 1)
        self.assert_error(InvalidWord, 0, [3, 3], [0, 1], 0, 1)
        self.assert_error(InvalidWord, 0, [3], [0, 0, 1], 0, 1)

    def test_truncated_at_the_number_of_all_bits(self):
        self.assert_error(Truncated, 1, [2, 0, 1, 3], [1], 0, 1)
        self.assert_error(Truncated, 2, [2, 0, 1, 3], [1, 1], 0, 1)
        self.assert_error(Truncated, 19, [20], [0] * 19, 0, 1)
        self.assert_error(Truncated, 4, [2, 0, 1, 3], [0, 1, 0, 1], 0, 3)

    def test_truncated_between_two_symbols(self):
        self.assert_error(Truncated, 3, [2, 0, 1, 3], [1, 0, 0], 0, 3)
        self.assert_error(Truncated, 2, [1, 1], [0, 1], 0, 3)

    def test_truncated_where_the_place_is_the_end(self):
        self.assert_error(Truncated, 0, [1, 1], [], 0, 1)
        self.assert_error(Truncated, 3, [1, 1], [0, 1, 1], 3, 2)

    def test_the_error_that_is_met_first(self):
        # too few bits for three symbols, but the second one is no word before the bits end
        self.assert_error(InvalidWord, 1, [1, 2], [0, 1, 1], 0, 3)
        # what would be no word lies behind the end
        self.assert_error(Truncated, 2, [1, 2], [0, 1], 0, 2)

    def test_all_small_codes_and_bits(self):
        for lengths in SMALL_CODES:
            for bits in (bits for count in range(6) for bits in reference.all_bits(count)):
                for at, count in ((0, 1), (0, 2), (0, 4), (len(bits) // 2, 1), (len(bits), 1), (len(bits), 0)):
                    try:
                        found = read_symbols(lengths, bits, at, count)
                    except KraftroomError as error:
                        found = (error.name, error.place)
                    self.assertEqual(found, reference.reading(lengths, bits, at, count), (lengths, bits, at, count))


if __name__ == "__main__":
    unittest.main()
