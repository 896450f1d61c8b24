"""Points 10.1 to 10.4: archives."""

import unittest
from itertools import product

from kraftroom.archives import open_archive, read_archive, read_symbol, write_archive
from kraftroom.blocks import write_block
from kraftroom.errors import InvalidBlock, InvalidWord, KraftroomError, Truncated
from tests import reference, reference_bits
from tests.reference_bits import archive_with, bits_of, block_in, gamma
from tests.test_blocks import skewed
from tests.test_least import scattered

# Triples of an alphabet's size, a chunk and a message.
ARCHIVES = [
    (2, 1, [1]),
    (2, 1, [1, 0, 0, 1]),
    (2, 300, [1, 0]),
    (3, 2, [2, 1, 0, 2]),
    (4, 2, [2, 1, 3]),
    (4, 3, [2, 1, 3]),
    (4, 4, [2, 1, 3]),
    (5, 7, scattered(20, 5)),
    (5, 7, scattered(21, 5)),
    (5, 7, scattered(22, 5)),
    (3, 9, [1] * 9 + [0] * 8 + [2] + [1, 0, 2] * 3 + [1] * 4),
    (16, 20, skewed(70, 16)),
]


class ArchiveCase(unittest.TestCase):
    def found(self, function, *arguments):
        """What a function gives, or (name of the error, its place)."""
        try:
            return function(*arguments)
        except KraftroomError as error:
            self.assertIn(type(error), (Truncated, InvalidWord, InvalidBlock))
            return error.name, error.place

    def assert_read(self, size, bits):
        """Opening and reading give what the document says, as the reference reads it."""
        opened = self.found(open_archive, bits)
        self.assertEqual(opened, reference_bits.answer(reference_bits.open_archive, bits), bits)
        whole = self.found(read_archive, size, bits)
        self.assertEqual(whole, reference_bits.answer(reference_bits.read_archive, size, bits), bits)
        for index in (0, 1, 2, 5, 11, 20, 3000):
            self.assertEqual(self.found(read_symbol, size, bits, index),
                             reference_bits.answer(reference_bits.read_symbol, size, bits, index), (bits, index))

    def assert_error(self, name, place, size, bits):
        """Opening raises an error, and with it reading, also of a symbol that there is not."""
        self.assertEqual(self.found(open_archive, bits), (name, place))
        self.assertEqual(self.found(read_archive, size, bits), (name, place))
        for index in (0, 1, 3000, 1 << 50):
            self.assertEqual(self.found(read_symbol, size, bits, index), (name, place))


class WriteArchive(unittest.TestCase):
    def test_example_of_the_interface(self):
        bits = write_archive(4, 2, [2, 1, 3])
        self.assertEqual([open_archive(bits)[:2], read_symbol(4, bits, 2), read_symbol(4, bits, 3)], [(3, 2), 3, None])

    def test_parts_of_an_archive(self):
        # the length 3 plus 1, the chunk 2, blocks of 9 and of 7 bits, and the blocks
        blocks = [bits_of("011 00 10 01"), bits_of("010 00 11")]
        self.assertEqual([write_block(4, [2, 1]), write_block(4, [3])], blocks)
        self.assertEqual(write_archive(4, 2, [2, 1, 3]),
                         bits_of("00100 010 0001001 00111") + blocks[0] + blocks[1])

    def test_empty_message(self):
        for size in range(2, 17):
            self.assertEqual(write_archive(size, 1, []), bits_of("1 1"))
            self.assertEqual(write_archive(size, 300, []), [1] + gamma(300))

    def test_chunk_1(self):
        self.assertEqual(write_archive(2, 1, [1, 0]), bits_of("011 1 00110 00110 010001 010000"))

    def test_chunk_that_is_longer_than_the_message(self):
        for chunk in (4, 5, 299, 300):
            block = write_block(4, [2, 1, 3])
            self.assertEqual(write_archive(4, chunk, [2, 1, 3]),
                             gamma(4) + gamma(chunk) + gamma(len(block)) + block)

    def test_last_block(self):
        for count, lengths in ((6, [3, 3]), (7, [3, 3, 1]), (8, [3, 3, 2]), (3, [3]), (2, [2])):
            message = scattered(count, 5)
            parts = reference_bits.parts_of(3, message)
            self.assertEqual([len(part) for part in parts], lengths)
            self.assertEqual(write_archive(5, 3, message),
                             archive_with(count, 3, [write_block(5, part) for part in parts]))

    def test_many_archives(self):
        for size, chunk, message in ARCHIVES:
            self.assertEqual(write_archive(size, chunk, message), reference_bits.archive_of(size, chunk, message))

    def test_small_archives(self):
        for size, longest in ((2, 6), (3, 4)):
            for count in range(longest + 1):
                for message in product(range(size), repeat=count):
                    for chunk in (1, 2, 3, 300):
                        self.assertEqual(write_archive(size, chunk, list(message)),
                                         reference_bits.archive_of(size, chunk, list(message)))

    def test_kinds_of_values(self):
        for message in ([], [1], [1, 0, 1]):
            found = write_archive(2, 2, message)
            self.assertIs(type(found), list)
            self.assertEqual({type(bit) for bit in found}, {int})


class OpenArchive(ArchiveCase):
    def test_kinds_of_values(self):
        for message in ([], [1, 0, 1]):
            found = open_archive(write_archive(2, 2, message))
            self.assertIs(type(found), tuple)
            self.assertEqual([type(part) for part in found], [int, int, list])
            self.assertEqual({type(place) for place in found[2]}, {int})

    def test_places(self):
        self.assertEqual(open_archive(write_archive(4, 2, [2, 1, 3])), (3, 2, [20, 29, 36]))
        self.assertEqual(open_archive(write_archive(2, 1, [1, 0])), (2, 1, [14, 20, 26]))
        self.assertEqual(open_archive(write_archive(4, 300, [2, 1, 3])), (3, 300, [29, 42]))

    def test_empty_message(self):
        for chunk, place in ((1, 2), (2, 4), (300, 18)):
            for behind in ([], [0], [1, 0, 1]):
                self.assertEqual(open_archive(write_archive(5, chunk, []) + behind), (0, chunk, [place]))

    def test_blocks_begin_at_the_places(self):
        for size, chunk, message in ARCHIVES:
            bits = write_archive(size, chunk, message)
            length, told, places = open_archive(bits)
            self.assertEqual([length, told, places[-1]], [len(message), chunk, len(bits)])
            parts = reference_bits.parts_of(chunk, message)
            self.assertEqual(len(places), len(parts) + 1)
            for part, begin, end in zip(parts, places, places[1:]):
                self.assertEqual(bits[begin:end], write_block(size, part))

    def test_blocks_are_not_read(self):
        for size, chunk, message in ARCHIVES:
            bits = write_archive(size, chunk, message)
            opened = open_archive(bits)
            begin = opened[2][0]
            for bit in (0, 1):
                self.assertEqual(open_archive(bits[:begin] + [bit] * (len(bits) - begin)), opened)

    def test_length(self):
        self.assert_error("Truncated", 0, 2, [])
        self.assert_error("Truncated", 3, 2, [0, 0, 1])
        self.assert_error("Truncated", 40, 2, [0] * 40)
        self.assert_error("InvalidWord", 0, 2, [0] * 41)

    def test_told_length_of_3000_and_3001(self):
        bits = gamma(3001) + gamma(300) + gamma(5) * 10 + [0] * 50
        self.assertEqual(open_archive(bits)[:2], (3000, 300))
        self.assertEqual(open_archive(bits)[2], [90 + 5 * number for number in range(11)])
        for length in (3001, 3002, 4096, 1 << 40):
            for behind in ([], [0] * 60, [1] * 60, gamma(301), gamma(300) + [1] * 99999):
                self.assert_error("InvalidBlock", 0, 2, gamma(length + 1) + behind)

    def test_chunk(self):
        start = gamma(4)
        self.assert_error("Truncated", 5, 2, start)
        self.assert_error("Truncated", 7, 2, start + [0, 0])
        self.assert_error("InvalidWord", 5, 2, start + [0] * 41)

    def test_told_chunk_of_301(self):
        for length in (0, 1, 3, 3000):
            start = gamma(length + 1)
            count = -(-length // 300)
            self.assertEqual(open_archive(start + gamma(300) + [1] * 2 * count)[:2], (length, 300))
            for chunk in (301, 302, 512, 1 << 40):
                for behind in ([], [0] * 60, [1] * 60):
                    self.assert_error("InvalidBlock", len(start), 2, start + gamma(chunk) + behind)

    def test_numbers_of_bits(self):
        start = gamma(4) + gamma(2)
        self.assert_error("Truncated", 8, 2, start)
        self.assert_error("Truncated", 10, 2, start + [1, 0])
        self.assert_error("InvalidWord", 8, 2, start + [0] * 41)
        self.assert_error("InvalidWord", 9, 2, start + [1] + [0] * 41)
        # the bits that the first block tells are not there, but the second number is read first
        self.assert_error("InvalidWord", 13, 2, start + gamma(7) + [0] * 41)
        self.assert_error("Truncated", 13, 2, start + gamma(7))

    def test_fewer_bits_than_the_blocks_have(self):
        for counts in ((6, 6), (1, 1), (1, 9), (1 << 40, 1)):
            start = gamma(4) + gamma(2) + gamma(counts[0]) + gamma(counts[1])
            for count in range(min(sum(counts), 13)):
                for bit in (0, 1):
                    self.assert_error("Truncated", len(start) + count, 2, start + [bit] * count)
            if sum(counts) < 20:
                found = open_archive(start + [1] * sum(counts))
                self.assertEqual(found[2], [len(start), len(start) + counts[0], len(start) + sum(counts)])

    def test_3000_blocks(self):
        opened = open_archive(gamma(3001) + [1] + [1] * 3000 + [0] * 3000)
        self.assertEqual(opened, (3000, 1, list(range(3024, 6025))))
        self.assert_error("Truncated", 3024 + 2999, 2, gamma(3001) + [1] + [1] * 3000 + [0] * 2999)


class ReadArchive(ArchiveCase):
    def test_kinds_of_values(self):
        for message in ([], [1, 0, 1]):
            self.assertIs(type(read_archive(2, write_archive(2, 2, message))), list)
        self.assertIs(type(read_symbol(2, write_archive(2, 2, [1, 0, 1]), 1)), int)

    def assert_message(self, size, chunk, message):
        bits = write_archive(size, chunk, message)
        for behind in ([], [0], [1, 0, 0, 1], [0] * 60):
            self.assertEqual(read_archive(size, bits + behind), message)
            for index in {0, 1, chunk - 1, chunk, len(message) // 2, len(message) - 1}:
                if 0 <= index < len(message):
                    self.assertEqual(read_symbol(size, bits + behind, index), message[index])
            for index in (len(message), len(message) + 1, len(message) + chunk, 1 << 50):
                self.assertIsNone(read_symbol(size, bits + behind, index))

    def test_many_archives(self):
        for size, chunk, message in ARCHIVES:
            self.assert_message(size, chunk, message)
            bits = write_archive(size, chunk, message)
            self.assertEqual([read_symbol(size, bits, index) for index in range(len(message))], message)

    def test_empty_message(self):
        for size in (2, 16):
            for chunk in (1, 2, 300):
                self.assert_message(size, chunk, [])

    def test_small_archives(self):
        for count in range(6):
            for message in product(range(2), repeat=count):
                for chunk in (1, 2, 3, 6):
                    self.assert_message(2, chunk, list(message))

    def test_last_block_full_or_shorter(self):
        for count in range(1, 25):
            for size in (2, 16):
                self.assert_message(size, 8, scattered(count, size))

    def test_3000_symbols(self):
        for size, message in ((2, scattered(3000, 2)), (16, skewed(3000, 16)), (7, [6] * 2999 + [0])):
            for chunk in (1, 7, 299, 300):
                bits = write_archive(size, chunk, message)
                self.assertEqual(open_archive(bits)[:2], (3000, chunk))
                self.assertEqual(read_archive(size, bits + [1, 0]), message)
                self.assertEqual([read_symbol(size, bits, index) for index in (0, 1500, 2999)],
                                 [message[0], message[1500], message[2999]])
                self.assertIsNone(read_symbol(size, bits, 3000))

    def test_other_forms_than_the_written_one(self):
        for forms in product(range(4), repeat=2):
            parts = [[2, 0, 2, 1], [1, 1, 2]]
            bits = archive_with(7, 4, [block_in(3, part, form) for part, form in zip(parts, forms)])
            self.assertEqual(read_archive(3, bits), parts[0] + parts[1])

    def test_each_symbol_whatever_the_other_blocks_are(self):
        for size, chunk, message in ARCHIVES:
            bits = write_archive(size, chunk, message)
            places = open_archive(bits)[2]
            for index, symbol in enumerate(message):
                begin, end = places[index // chunk], places[index // chunk + 1]
                head, block = bits[:places[0]], bits[begin:end]
                for other in ([0] * len(bits), [1] * len(bits), [1 - bit for bit in bits], scattered(len(bits), 2)):
                    changed = head + other[places[0]:begin] + block + other[end:]
                    self.assertEqual(read_symbol(size, changed, index), symbol)


class WrongBlocks(ArchiveCase):
    """Blocks with errors: the places count from the beginning of the archive."""

    def assert_second(self, name, place, size, second, part):
        """The middle one of three blocks has an error, which is met by those who read it."""
        first = write_block(size, [1, 0])
        last = write_block(size, [0])
        bits = archive_with(5, 2, [first, second, last])
        begin = open_archive(bits)[2][1]
        error = (name, begin + place)
        for behind in ([], [1, 0, 1]):
            self.assertEqual(self.found(read_archive, size, bits + behind), error, part)
            for index in (2, 3):
                self.assertEqual(self.found(read_symbol, size, bits + behind, index), error, part)
            self.assertEqual([read_symbol(size, bits + behind, index) for index in (0, 1, 4, 5)], [1, 0, 0, None])

    def test_block_that_is_right(self):
        bits = archive_with(5, 2, [write_block(2, part) for part in ([1, 0], [1, 1], [0])])
        self.assertEqual(read_archive(2, bits), [1, 0, 1, 1, 0])

    def test_block_that_ends_before_the_next_one(self):
        for part in ([1, 1], [0, 1]):
            for form in range(4):
                for more in ([0], [1], [0, 1, 1, 0], write_block(2, [1])):
                    self.assert_second("InvalidBlock", 0, 2, block_in(2, part, form) + more, part)

    def test_block_that_ends_behind_the_place_of_the_next_one(self):
        # it is read as if the bits ended there
        for part in ([1, 1], [0, 1]):
            for form in range(4):
                block = block_in(2, part, form)
                for count in range(1, len(block)):
                    self.assert_second("Truncated", count, 2, block[:count], part)

    def test_last_block(self):
        block = write_block(4, [3, 2])
        for more in ([0], [1], [1, 0, 0]):
            bits = archive_with(5, 3, [write_block(4, [1, 2, 3]), block + more])
            begin = open_archive(bits)[2][1]
            self.assertEqual(self.found(read_archive, 4, bits), ("InvalidBlock", begin))
            self.assertEqual(self.found(read_archive, 4, bits + [1]), ("InvalidBlock", begin))
            self.assertEqual(self.found(read_symbol, 4, bits, 3), ("InvalidBlock", begin))
            self.assertEqual([read_symbol(4, bits, 2), read_symbol(4, bits, 5)], [3, None])
        for count in range(1, len(block)):
            bits = archive_with(5, 3, [write_block(4, [1, 2, 3]), block[:count]])
            for behind in ([], block[count:], [0] * 50):
                self.assertEqual(self.found(read_archive, 4, bits + behind), ("Truncated", len(bits)))
                self.assertEqual(self.found(read_symbol, 4, bits + behind, 4), ("Truncated", len(bits)))

    def test_block_with_another_number_of_symbols(self):
        for part in ([], [1], [1, 0, 1], [0] * 40):
            for form in range(4) if part else [0]:
                second = block_in(2, part, form) if part else [1, 0, 0]
                self.assert_second("InvalidBlock", 0, 2, second, part)

    def test_last_block_with_another_number_of_symbols(self):
        for part in ([], [1, 2, 3]):
            bits = archive_with(5, 3, [write_block(4, [1, 2, 3]), write_block(4, part)])
            begin = open_archive(bits)[2][1]
            self.assertEqual(self.found(read_archive, 4, bits), ("InvalidBlock", begin))
            self.assertEqual(self.found(read_symbol, 4, bits, 4), ("InvalidBlock", begin))
            self.assertIsNone(read_symbol(4, bits, 5))

    def test_errors_inside_a_block(self):
        for name, place, text in (
                ("InvalidWord", 0, "0" * 41),
                ("InvalidBlock", 0, "".join(map(str, gamma(302))) + "00"),
                ("InvalidBlock", 1, "1 01"),
                ("InvalidBlock", 5, "011 00 11 00"),
                ("InvalidBlock", 7, "011 00 00 11"),
                ("InvalidBlock", 5, "011 01 0000 0000 0000"),
                ("InvalidBlock", 5, "011 01 0001 0001 0001 00"),
                ("InvalidWord", 18, "011 01 0001 0000 0000 0 1"),
                ("InvalidBlock", 5, "011 10 1 1 010 1"),
                ("InvalidBlock", 13, "011 10 010 010 1 1"),
                ("InvalidBlock", 8, "011 11 010 1"),
                ("InvalidWord", 5, "011 11" + "0" * 41)):
            self.assert_second(name, place, 3, bits_of(text), text)

    def test_errors_inside_a_block_come_first(self):
        # the field is no symbol, and the block would end elsewhere and has another number of symbols
        self.assert_second("InvalidBlock", 5, 3, bits_of("010 00 11 1111"), "field")
        self.assert_second("InvalidBlock", 7, 3, bits_of("00100 00 11 00 00 1"), "field")
        self.assert_second("Truncated", 10, 3, bits_of("00100 00 10 0"), "fields")

    def test_first_of_two_blocks_with_errors(self):
        wrong = [bits_of("011 00 11 00"), bits_of("011 00 00 11")]
        bits = archive_with(4, 2, wrong)
        begin = len(bits) - 18
        self.assertEqual(self.found(read_archive, 3, bits), ("InvalidBlock", begin + 5))
        self.assertEqual(self.found(read_symbol, 3, bits, 1), ("InvalidBlock", begin + 5))
        self.assertEqual(self.found(read_symbol, 3, bits, 2), ("InvalidBlock", begin + 9 + 7))


class AnyBits(ArchiveCase):
    """Opening and reading give what the document says, whatever the bits are."""

    def test_all_small_bits(self):
        for count in range(13):
            for bits in reference.all_bits(count):
                self.assert_read(2, bits)

    def test_all_bits_of_one_block(self):
        for chunk in (1, 2):
            for bits in reference.all_bits(9):
                self.assert_read(2, gamma(chunk + 1) + gamma(chunk) + gamma(8) + bits)

    def test_cut_off_at_each_place(self):
        for size, chunk, message in ARCHIVES:
            bits = write_archive(size, chunk, message)
            for cut in range(len(bits)):
                self.assert_error("Truncated", cut, size, bits[:cut])

    def test_flipped_bits(self):
        for size, chunk, message in ARCHIVES:
            bits = write_archive(size, chunk, message)
            for place in range(len(bits)):
                for behind in ([], [0, 1, 1, 0] * 10):
                    self.assert_read(size, bits[:place] + [1 - bits[place]] + bits[place + 1:] + behind)

    def test_many_flipped_bits(self):
        for at, place in enumerate(scattered(600, 1 << 16)):
            size, chunk, message = ARCHIVES[at % len(ARCHIVES)]
            bits = write_archive(size, chunk, message) + [0, 1, 1]
            for other in (place, place * 7, place * 31):
                bits[other % len(bits)] ^= 1
            self.assert_read(size, bits)

    def test_another_size(self):
        for size, chunk, message in ARCHIVES:
            bits = write_archive(size, chunk, message)
            for other in (2, 3, 4, 8, 16):
                self.assert_read(other, bits)


if __name__ == "__main__":
    unittest.main()
