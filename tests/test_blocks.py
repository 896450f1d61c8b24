"""Points 09.1 to 09.6: blocks."""

import unittest
from itertools import product

from kraftroom.blocks import block_lengths, body, read_block, write_block
from kraftroom.errors import InvalidBlock, InvalidWord, KraftroomError, Truncated
from kraftroom.intervals import encode_message
from kraftroom.least import least_lengths
from kraftroom.models import Counts, Learner
from tests import reference, reference_bits
from tests.reference_bits import bits_of, gamma
from tests.test_least import FIBONACCI_16, scattered

SIZES = (2, 3, 4, 5, 8, 9, 15, 16)
FORMS = (0, 1, 2, 3)
# These forms have the fewest bits for the block of an alphabet of this size.
EQUALLY_SHORT = [
    ([0, 1, 3], 4, [1, 1, 0, 1, 0, 1, 1, 1, 0, 1, 0, 0, 1, 1, 0, 0]),
    ([0, 2, 3], 3, [2] * 4),
    ([0, 3], 2, [1] * 5),
    ([1, 3], 6, [2, 0, 3, 3, 2, 2, 3, 3, 2, 0, 2, 3, 2, 3, 2, 3, 2, 3, 3, 3, 3, 3, 1, 2, 3, 0, 3, 1, 2, 2, 3, 3, 2, 3,
                 2, 2, 3, 2, 3, 3, 0, 3, 3, 2, 3, 3, 0, 2, 3]),
    ([2, 3], 3, [2] * 5),
]


def skewed(count, size):
    """A block in which small symbols are much more frequent than great ones."""
    return [min(first, second, third) for first, second, third in
            zip(scattered(count, size), scattered(count + 7, size)[7:], scattered(count + 20, size)[20:])]


def blocks_for(size):
    """Blocks of many kinds, none of them empty."""
    yield [size - 1]
    yield [0]
    yield [0] * 5
    yield [1] * 5
    yield [0] * 9
    yield [size - 1] * 40
    yield [0] * 20 + [size - 1]
    yield [size - 1] + [0] * 20
    yield list(range(size))
    yield scattered(35, size)
    yield skewed(35, size)
    yield scattered(60, 2)
    yield skewed(60, size)


def long_blocks():
    """Pairs of an alphabet's size and a block of 300 symbols."""
    for size in (2, 3, 16):
        yield size, scattered(300, size)
        yield size, skewed(300, size)
        yield size, [size - 1] * 300
        yield size, [0] * 299 + [1]
        yield size, [0] * 150 + [size - 1] * 150
    yield 16, [symbol for symbol in range(16) for _ in range(18)] + [15] * 12


def small_blocks():
    """Pairs of an alphabet's size and a block, all the short ones."""
    for size, longest in ((2, 6), (3, 4), (4, 3)):
        for count in range(1, longest + 1):
            for block in product(range(size), repeat=count):
                yield size, list(block)


def told_length(count, form):
    """The bits before the body of a block."""
    return gamma(count + 1) + bits_of(format(form, "02b"))


class BlockCase(unittest.TestCase):
    def found(self, size, bits, at):
        """What reading gives, or (name of the error, its place)."""
        try:
            return read_block(size, bits, at)
        except KraftroomError as error:
            self.assertIn(type(error), (Truncated, InvalidWord, InvalidBlock))
            return error.name, error.place

    def assert_read(self, size, bits, at=0):
        """Reading gives what the document says, as the reference reads it."""
        found = self.found(size, bits, at)
        self.assertEqual(found, reference_bits.answer(reference_bits.read_block, size, bits, at), (size, bits, at))
        return found

    def assert_error(self, name, place, size, bits):
        """Reading raises an error, with bits before the block too; Truncated tells the number of all bits."""
        self.assertEqual(self.found(size, bits, 0), (name, place))
        for before in ([0], [1, 0, 1]):
            self.assertEqual(self.found(size, before + bits, len(before)), (name, place + len(before)))


class BlockLengths(unittest.TestCase):
    def test_one_symbol_occurs(self):
        self.assertEqual(block_lengths([5, 0]), [1, 0])
        self.assertEqual(block_lengths([0, 0, 1]), [0, 0, 1])
        self.assertEqual(block_lengths([0] * 15 + [300]), [0] * 15 + [1])

    def test_two_symbols_occur(self):
        self.assertEqual(block_lengths([1, 299]), [1, 1])
        self.assertEqual(block_lengths([0, 3, 0, 1, 0]), [0, 1, 0, 1, 0])

    def test_symbols_that_do_not_occur_have_no_length(self):
        self.assertEqual(block_lengths([5, 0, 1, 1, 0, 2]), [1, 0, 3, 3, 0, 2])

    def test_code_of_the_counts_alone(self):
        # with the weight 0 among the weights the code would be another one
        self.assertEqual(block_lengths([1, 0, 1, 0]), [1, 0, 1, 0])
        for counts in ([3, 1, 4, 1, 5, 9], [1] * 16, scattered(16, 20), scattered(9, 3), [2, 2, 1, 1]):
            occurring = [count for count in counts if count]
            self.assertEqual([length for length in block_lengths(counts) if length], least_lengths(occurring, 15))
            self.assertEqual(block_lengths(counts), reference_bits.lengths_of(counts))

    def test_limit_15(self):
        # 16 symbols never need more than 15 bits, but some need all of them
        self.assertEqual(max(block_lengths(FIBONACCI_16)), 15)
        powers = [1 << at for at in range(16)]
        self.assertEqual(block_lengths(powers), [15, 15] + list(range(14, 0, -1)))
        # beyond the bounds: 17 symbols would need 16 bits without the limit
        self.assertEqual(max(block_lengths([1 << at for at in range(17)])), 15)

    def test_kinds_of_values(self):
        found = block_lengths([3, 0, 2])
        self.assertIs(type(found), list)
        self.assertEqual([type(length) for length in found], [int] * 3)


class Body(unittest.TestCase):
    def test_example_of_the_interface(self):
        self.assertEqual(body(3, [1, 1, 2], 1), [0, 0, 0, 0, 0, 0, 0, 1, 0, 0, 0, 1, 0, 0, 1])

    def test_widths_of_alphabets(self):
        widths = [1, 2, 2, 3, 3, 3, 3, 4, 4, 4, 4, 4, 4, 4, 4]
        for size, width in zip(range(2, 17), widths):
            self.assertEqual(len(body(size, [0], 0)), width)
            self.assertEqual(body(size, [size - 1, 1], 0), bits_of(f"{size - 1:0{width}b} {1:0{width}b}"))

    def test_form_1_by_hand(self):
        self.assertEqual(body(2, [1, 1, 1], 1), bits_of("0000 0001 000"))
        self.assertEqual(body(4, [0, 0, 2, 0, 3], 1), bits_of("0001 0000 0010 0010 0 0 10 0 11"))

    def test_form_2_by_hand(self):
        # the counts plus 1: 1 and 4; no bits follow, since the message is certain
        self.assertEqual(body(2, [1, 1, 1], 2), bits_of("1 00100 1"))
        # the counts plus 1: 3, 1 and 2; the interval of 0 0 2 is 4/9 * 2/3 wide and begins at 8/27
        self.assertEqual(encode_message(Counts([2, 0, 1]), [0, 0, 2]), [0, 1, 0, 1])
        self.assertEqual(body(3, [0, 0, 2], 2), bits_of("011 1 010 00101 0101"))

    def test_form_3_by_hand(self):
        # the interval of 0 0 is 1/2 * 9/10 wide and begins at 0
        self.assertEqual(body(2, [0, 0], 3), bits_of("011 00"))
        for block in ([0], [1, 0, 1], [1] * 50):
            code = encode_message(Learner(2, 8, 1000), block)
            self.assertEqual(body(2, block, 3), gamma(len(code) + 1) + code)

    def test_learner_of_form_3(self):
        # The totals are 8 + 8 * k and 9 + 8 * k, among them 1000 and 1001: another
        # step or another limit gives another code.
        for size, others in ((8, [(7, 1000), (9, 1000), (8, 999)]), (9, [(7, 1000), (9, 1000), (8, 1001)])):
            block = [0] * 100 + [1] * 200
            code = encode_message(Learner(size, 8, 1000), block)
            self.assertEqual(body(size, block, 3), gamma(len(code) + 1) + code)
            for step, limit in others:
                self.assertNotEqual(encode_message(Learner(size, step, limit), block), code)

    def test_all_small_blocks(self):
        for size, block in small_blocks():
            for form in FORMS:
                self.assertEqual(body(size, block, form), reference_bits.body_of(size, block, form))

    def test_many_blocks(self):
        for size in SIZES:
            for block in blocks_for(size):
                for form in FORMS:
                    self.assertEqual(body(size, block, form), reference_bits.body_of(size, block, form))

    def test_300_symbols(self):
        for size, block in long_blocks():
            for form in FORMS:
                self.assertEqual(body(size, block, form), reference_bits.body_of(size, block, form))

    def test_kinds_of_values(self):
        for form in FORMS:
            found = body(3, [0, 2], form)
            self.assertIs(type(found), list)
            self.assertEqual({type(bit) for bit in found}, {int})


class WriteBlock(unittest.TestCase):
    def assert_written(self, size, block):
        """The block is written in the form with the fewest bits, and in the least of those; returns the form."""
        found = write_block(size, block)
        self.assertEqual(found, reference_bits.block_of(size, block))
        counts = [len(body(size, block, form)) for form in FORMS]
        form = counts.index(min(counts))
        start = told_length(len(block), form)
        self.assertEqual(found, start + body(size, block, form))
        self.assertLessEqual(len(found), len(start) + len(block) * reference_bits.width_of(size))
        return form

    def test_examples_of_the_interface(self):
        self.assertEqual([write_block(4, []), write_block(4, [2])], [[1, 0, 0], [0, 1, 0, 0, 0, 1, 0]])

    def test_empty_block(self):
        for size in range(2, 17):
            self.assertEqual(write_block(size, []), [1, 0, 0])

    def test_all_small_blocks(self):
        for size, block in small_blocks():
            self.assert_written(size, block)

    def test_each_form_is_the_best_of_some_block(self):
        forms = {form: 0 for form in FORMS}
        for size in SIZES:
            for block in blocks_for(size):
                forms[self.assert_written(size, block)] += 1
        for size, block in long_blocks():
            forms[self.assert_written(size, block)] += 1
        self.assertEqual([form for form in FORMS if forms[form] == 0], [])

    def test_form_0(self):
        self.assertEqual(write_block(2, [0, 1, 1]), bits_of("00100 00 011"))
        self.assertEqual(write_block(5, [4, 0]), bits_of("011 00 100 000"))

    def test_form_1(self):
        # the three frequent symbols take 1 and 2 bits instead of 4 in form 0
        block = [0, 1, 2, 0] * 60
        self.assertEqual(self.assert_written(3, block), 1)
        self.assertEqual(write_block(3, block)[:15 + 2 + 12], gamma(241) + bits_of("01 0001 0010 0010"))

    def test_form_2(self):
        # 8 bits behind the form: 10 in form 0, 17 in form 1, 9 in form 3
        self.assertEqual(self.assert_written(3, [1] * 5), 2)
        self.assertEqual(write_block(3, [1] * 5), bits_of("00110 10 1 00110 1 1"))

    def test_form_3(self):
        # a block with one different symbol
        self.assertEqual(self.assert_written(2, [0] * 40 + [1]), 3)
        code = encode_message(Learner(2, 8, 1000), [0] * 40 + [1])
        self.assertEqual(write_block(2, [0] * 40 + [1]), gamma(42) + [1, 1] + gamma(len(code) + 1) + code)

    def test_equally_short_forms(self):
        for forms, size, block in EQUALLY_SHORT:
            counts = [len(body(size, block, form)) for form in FORMS]
            self.assertEqual([form for form in FORMS if counts[form] == min(counts)], forms)
            self.assertEqual(self.assert_written(size, block), forms[0])

    def test_300_symbols(self):
        for size, block in long_blocks():
            found = write_block(size, block)
            self.assertEqual(found[:17], gamma(301))
            self.assertEqual(read_block(size, found, 0), (block, len(found)))

    def test_kinds_of_values(self):
        for block in ([], [1], [0] * 40):
            found = write_block(2, block)
            self.assertIs(type(found), list)
            self.assertEqual({type(bit) for bit in found}, {int})


class ReadBlock(BlockCase):
    def test_kinds_of_values(self):
        for block in ([], [1], [0] * 40):
            found = read_block(2, write_block(2, block), 0)
            self.assertIs(type(found), tuple)
            self.assertEqual([type(part) for part in found], [list, int])

    def test_what_was_written(self):
        for size in SIZES:
            for block in [[], *blocks_for(size)]:
                bits = write_block(size, block)
                for before in ([], [0], [1, 1, 0]):
                    for behind in ([], [0], [1], [1, 0, 0, 1]):
                        self.assertEqual(read_block(size, before + bits + behind, len(before)),
                                         (block, len(before) + len(bits)))

    def test_all_small_blocks(self):
        for size, block in small_blocks():
            bits = write_block(size, block)
            self.assertEqual(read_block(size, bits + [1, 0], 0), (block, len(bits)))

    def test_any_form(self):
        """A block is read in each form, not only in the one in which it is written."""
        for size in SIZES:
            for block in blocks_for(size):
                for form in FORMS:
                    bits = told_length(len(block), form) + body(size, block, form)
                    self.assertEqual(read_block(size, [1, 0] + bits + [0, 1, 1], 2), (block, 2 + len(bits)))

    def test_300_symbols(self):
        for size, block in long_blocks():
            for form in FORMS:
                bits = told_length(300, form) + body(size, block, form)
                self.assertEqual(read_block(size, bits + [1, 0], 0), (block, len(bits)))

    def test_other_codes_than_the_least_one(self):
        # lengths that leave room, and lengths of symbols that do not occur
        bits = told_length(3, 1) + bits_of("0010 1111 0001 0 10 0")
        self.assertEqual(read_block(3, bits, 0), ([2, 0, 2], len(bits)))
        bits = told_length(2, 1) + bits_of("1111 1111 000000000000001 000000000000000")
        self.assertEqual(read_block(2, bits, 0), ([1, 0], len(bits)))

    def test_longer_codes_than_the_shortest_one(self):
        for form, told in ((2, bits_of("011 1 010")), (3, [])):
            block = [0, 0, 2]
            code = encode_message(Counts([2, 0, 1]) if form == 2 else Learner(3, 8, 1000), block)
            for more in ([0], [1], [0, 1, 1, 0, 1], [1] * 50):
                bits = told_length(3, form) + told + gamma(len(code + more) + 1) + code + more
                self.assertEqual(read_block(3, bits + [0, 1], 0), (block, len(bits)))

    def test_counts_are_not_compared_with_the_message(self):
        # the counts are 2 and 2, the symbols are 0 0 0 0 and 1 1 1 0
        for text, block in (("0000", [0, 0, 0, 0]), ("1110", [1, 1, 1, 0])):
            bits = told_length(4, 2) + bits_of("011 011 00101" + text)
            self.assertEqual(read_block(2, bits, 0), (block, len(bits)))

    def test_empty_block(self):
        for size in range(2, 17):
            for behind in ([], [1, 1], [0] * 9):
                self.assertEqual(read_block(size, [1, 0, 0] + behind, 0), ([], 3))


class Errors(BlockCase):
    def test_length(self):
        self.assert_error("Truncated", 0, 2, [])
        self.assert_error("Truncated", 3, 2, [0, 0, 1])
        self.assert_error("Truncated", 40, 2, [0] * 40)
        self.assert_error("InvalidWord", 0, 2, [0] * 41)

    def test_length_of_300_and_301(self):
        bits = gamma(301) + [0, 0] + [1] * 300
        self.assertEqual(read_block(2, bits, 0), ([1] * 300, len(bits)))
        for length in (301, 302, 511, 512, 1 << 40):
            for behind in ([], [0], [0, 0], [0, 0] + [1] * 600, [1, 1, 1]):
                self.assert_error("InvalidBlock", 0, 2, gamma(length + 1) + behind)

    def test_form_is_not_complete(self):
        for length in (0, 1, 5, 300):
            start = gamma(length + 1)
            for behind in ([], [0], [1]):
                self.assert_error("Truncated", len(start + behind), 2, start + behind)

    def test_form_of_an_empty_block(self):
        for form in (1, 2, 3):
            for behind in ([], [0], [1] * 20, [0] * 20):
                self.assert_error("InvalidBlock", 1, 2, told_length(0, form) + behind)

    def test_field_that_is_not_complete(self):
        for size, width in ((2, 1), (3, 2), (5, 3), (16, 4)):
            start = told_length(3, 0)
            for count in range(3 * width):
                self.assert_error("Truncated", len(start) + count, size, start + [0] * count)

    def test_field_that_is_no_symbol(self):
        for size in (3, 5, 6, 7, 9, 15):
            width = reference_bits.width_of(size)
            start = told_length(3, 0)
            for wrong in range(size, 1 << width):
                field = bits_of(format(wrong, f"0{width}b"))
                last = bits_of(format(size - 1, f"0{width}b"))
                for right in (0, 1, 2):
                    place = len(start) + right * width
                    for behind in ([], [1] * 20):
                        self.assert_error("InvalidBlock", place, size, start + last * right + field + behind)

    def test_field_that_is_begun_is_no_symbol_yet(self):
        # whatever follows the bits 1 1, it would be no symbol of 5; but the field is not complete
        start = told_length(1, 0)
        self.assert_error("Truncated", len(start) + 2, 5, start + [1, 1])

    def test_lengths_that_are_not_complete(self):
        start = told_length(2, 1)
        for count in range(12):
            for bit in (0, 1):
                self.assert_error("Truncated", len(start) + count, 3, start + [bit] * count)

    def test_lengths_of_no_code(self):
        start = told_length(2, 1)
        for text in ("0000 0000 0000", "0001 0001 0001", "0001 0001 1111", "0010 0001 0001"):
            for behind in ([], [0], [1, 0, 1, 1]):
                self.assert_error("InvalidBlock", len(start), 3, start + bits_of(text) + behind)

    def test_symbols_of_form_1(self):
        start = told_length(3, 1) + bits_of("0001 0011 0000")
        place = len(start)
        # 0 and 100 are words
        self.assertEqual(read_block(3, start + [0, 1, 0, 0, 0], 0), ([0, 1, 0], place + 5))
        self.assert_error("Truncated", place, 3, start)
        self.assert_error("Truncated", place + 3, 3, start + [0, 1, 0])
        self.assert_error("Truncated", place + 4, 3, start + [0, 1, 0, 0])
        self.assert_error("InvalidWord", place + 1, 3, start + [0, 1, 1])
        self.assert_error("InvalidWord", place + 1, 3, start + [0, 1, 0, 1, 0, 0])
        self.assert_error("InvalidWord", place + 4, 3, start + [0, 1, 0, 0, 1, 1])

    def test_counts(self):
        start = told_length(2, 2)
        place = len(start)
        self.assert_error("Truncated", place, 3, start)
        self.assert_error("Truncated", place + 2, 3, start + bits_of("1 0"))
        self.assert_error("Truncated", place + 40, 3, start + [0] * 40)
        self.assert_error("InvalidWord", place, 3, start + [0] * 41)
        self.assert_error("InvalidWord", place + 4, 3, start + bits_of("011 1") + [0] * 41)
        # the first counts are too great already, but not all of them have been read
        self.assert_error("Truncated", place + 10, 3, start + bits_of("00100 00100"))
        self.assert_error("InvalidWord", place + 10, 3, start + bits_of("00100 00100") + [0] * 41)

    def test_counts_whose_sum_is_not_the_length(self):
        start = told_length(2, 2)
        for counts in ((0, 0, 0), (1, 0, 0), (0, 0, 1), (1, 1, 1), (0, 3, 0), (2, 0, 1), (1 << 40, 0, 0)):
            text = sum((gamma(count + 1) for count in counts), [])
            for behind in ([], [0] * 50, [1] * 9):
                self.assert_error("InvalidBlock", len(start), 3, start + text + behind)

    def test_number_of_bits(self):
        for start in (told_length(2, 2) + bits_of("010 1 010"), told_length(2, 3)):
            place = len(start)
            self.assert_error("Truncated", place, 3, start)
            self.assert_error("Truncated", place + 2, 3, start + [0, 0])
            self.assert_error("Truncated", place + 40, 3, start + [0] * 40)
            self.assert_error("InvalidWord", place, 3, start + [0] * 41)
            self.assert_error("InvalidWord", place, 3, start + [0] * 60 + [1] * 60)

    def test_fewer_bits_than_told(self):
        for start in (told_length(2, 2) + bits_of("010 1 010"), told_length(2, 3)):
            for told in (1, 2, 7, 300, 1 << 40):
                head = start + gamma(told + 1)
                for count in range(min(told, 9)):
                    # the bits may leave the message undecided: that is not looked at
                    for bit in (0, 1):
                        self.assert_error("Truncated", len(head) + count, 3, head + [bit] * count)

    def test_bits_that_leave_the_message_undecided(self):
        for start in (told_length(2, 2) + bits_of("010 1 010"), told_length(2, 3)):
            for text in ("", "0", "1"):
                head = start + gamma(len(text) + 1)
                for behind in ([], [0, 0, 0, 0], [1, 1, 1, 1]):
                    self.assert_error("InvalidBlock", len(head), 3, head + bits_of(text) + behind)

    def test_bits_that_are_undecided_late(self):
        block = scattered(30, 3)
        for form in (2, 3):
            model = Counts(reference_bits.counts_of(3, block)) if form == 2 else Learner(3, 8, 1000)
            code = encode_message(model, block)
            start = told_length(30, form)
            if form == 2:
                start += sum((gamma(count + 1) for count in reference_bits.counts_of(3, block)), [])
            for cut in (1, 2, 10, len(code)):
                head = start + gamma(len(code) - cut + 1)
                self.assert_error("InvalidBlock", len(head), 3, head + code[:len(code) - cut])


class AnyBits(BlockCase):
    """Reading gives what the document says, whatever the bits are."""

    def test_all_small_bits(self):
        for size in (2, 3, 4):
            for count in range(13):
                for bits in reference.all_bits(count):
                    self.assert_read(size, bits)

    def test_all_bodies_of_few_bits(self):
        for size in (2, 3):
            for length, form in product((1, 2, 3), FORMS):
                for bits in reference.all_bits(9):
                    self.assert_read(size, [1] + told_length(length, form) + bits, 1)

    def test_cut_off_at_each_place(self):
        for size in (2, 3, 5, 16):
            for block in blocks_for(size):
                for form in FORMS:
                    bits = told_length(len(block), form) + body(size, block, form)
                    for cut in range(len(bits)):
                        self.assertEqual(self.found(size, bits[:cut], 0), ("Truncated", cut))
                        self.assertEqual(self.found(size, [0, 1] + bits[:cut], 2), ("Truncated", cut + 2))

    def test_flipped_bits(self):
        for size in (2, 3, 5, 16):
            for block in blocks_for(size):
                for form in FORMS:
                    bits = told_length(len(block), form) + body(size, block, form)
                    for place in range(len(bits)):
                        self.assert_read(size, bits[:place] + [1 - bits[place]] + bits[place + 1:])

    def test_many_flipped_bits(self):
        places = scattered(4000, 1 << 16)
        at = 0
        for size in (2, 3, 6, 16):
            for block in blocks_for(size):
                for form in FORMS:
                    bits = [1, 0, 1] + told_length(len(block), form) + body(size, block, form) + [0, 1, 1, 0] * 5
                    for place in places[at:at + 3]:
                        bits[place % len(bits)] ^= 1
                    at += 3
                    self.assert_read(size, bits, 3)

    def test_scattered_bits(self):
        for seed in range(300):
            bits = scattered(seed + 80, 2)[seed:] if seed % 2 else skewed(seed + 80, 2)[seed:]
            for size in (2, 5, 16):
                self.assert_read(size, bits, seed % 7)

    def test_each_place(self):
        bits = write_block(3, [0, 1, 2, 0]) + write_block(3, [1] * 20) + write_block(3, []) + [0] * 45
        for at in range(len(bits) + 1):
            self.assert_read(3, bits, at)


if __name__ == "__main__":
    unittest.main()
