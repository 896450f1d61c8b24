"""Points 00.2 and 08.1 to 08.5: fields, and codes for integers."""

import unittest

from kraftroom.errors import InvalidWord, KraftroomError, Truncated
from kraftroom.fields import bits_number, field_bits, read_field
from kraftroom.integers import (delta_bits, fibonacci_bits, gamma_bits, read_delta, read_fibonacci, read_gamma,
                                read_rice, rice_bits)
from tests import reference, reference_bits
from tests.reference_bits import bits_of
from tests.test_least import scattered

TOP = 1 << 40
PARAMETERS = (0, 1, 2, 3, 7, 19, 20)


def around_powers():
    """Integers from 1 just below, at and above powers of two, all less than 1 << 40."""
    found = {(1 << at) + more for at in range(41) for more in (-1, 0, 1)}
    return sorted(n for n in found if 1 <= n < TOP)


def around_fibonacci_numbers():
    """Integers from 1 just below, at and above Fibonacci numbers, all less than 1 << 40."""
    found = {term + more for term in reference_bits.fibonacci_up_to(TOP) for more in (-1, 0, 1)}
    return sorted(n for n in found if 1 <= n < TOP)


def many_integers():
    return sorted({*range(1, 300), *around_powers(), *around_fibonacci_numbers(), *scattered_integers()})


def scattered_integers():
    pairs = zip(scattered(40, 1 << 20), scattered(80, 1 << 20)[40:])
    return [(high << 20 | low) or 1 for high, low in pairs]


def rice_integers(k):
    """Integers from 0 whose Rice codes are not too long."""
    near = {(ones << k) + more for ones in (0, 1, 2, 5, 63, 64, 1000) for more in (-1, 0, 1, (1 << k) - 1)}
    return sorted(n for n in near | set(range(40)) if n >= 0)


def coded():
    """Tuples of an integer, its code, and the function that reads it."""
    for n in many_integers():
        yield n, gamma_bits(n), read_gamma
        yield n, delta_bits(n), read_delta
        yield n, fibonacci_bits(n), read_fibonacci
    for k in PARAMETERS:
        for n in rice_integers(k):
            yield n, rice_bits(k, n), lambda bits, at, k=k: read_rice(k, bits, at)


class IntegerCase(unittest.TestCase):
    def found(self, function, *arguments):
        """What reading gives, or (name of the error, its place)."""
        try:
            return function(*arguments)
        except KraftroomError as error:
            self.assertIn(type(error), (Truncated, InvalidWord))
            return error.name, error.place


class Fields(unittest.TestCase):
    def test_most_significant_bit_first(self):
        self.assertEqual(field_bits(6, 3), [1, 1, 0])
        self.assertEqual(field_bits(6, 5), [0, 0, 1, 1, 0])
        self.assertEqual([field_bits(0, 0), field_bits(0, 2), field_bits(3, 2)], [[], [0, 0], [1, 1]])

    def test_reading_what_was_written(self):
        for width in range(6):
            for number in range(1 << width):
                self.assertEqual(bits_number(field_bits(number, width)), number)
                bits = [1, 0] + field_bits(number, width) + [1, 1, 0]
                self.assertEqual(read_field(bits, 2, width), (number, 2 + width))

    def test_bits_that_end_before(self):
        for count in range(6):
            with self.assertRaises(Truncated) as caught:
                read_field([1] * count, 1, 5)
            self.assertEqual(caught.exception.place, count)


class Gamma(IntegerCase):
    def test_examples(self):
        self.assertEqual(gamma_bits(5), [0, 0, 1, 0, 1])
        for n, text in ((1, "1"), (2, "010"), (3, "011"), (4, "00100"), (7, "00111"), (8, "0001000")):
            self.assertEqual(gamma_bits(n), bits_of(text))

    def test_many_integers(self):
        for n in many_integers():
            self.assertEqual(gamma_bits(n), reference_bits.gamma(n))
            self.assertEqual(len(gamma_bits(n)), 2 * n.bit_length() - 1)

    def test_great_integers(self):
        for n in (TOP, TOP + 1, (1 << 41) - 1, 1 << 64, 3 ** 100):
            self.assertEqual(gamma_bits(n), reference_bits.gamma(n))

    def test_40_zero_bits(self):
        for n in (TOP, TOP + 5, 2 * TOP - 1):
            code = gamma_bits(n)
            self.assertEqual(code[:41], [0] * 40 + [1])
            self.assertEqual(read_gamma([1, 0, 1] + code + [0], 3), (n, 84))
        self.assertEqual(self.found(read_gamma, [1] + [0] * 40, 1), ("Truncated", 41))
        self.assertEqual(self.found(read_gamma, [0] * 40 + [1] * 40, 0), ("Truncated", 80))
        self.assertEqual(read_gamma([0] * 40 + [1] * 41, 0), (2 * TOP - 1, 81))

    def test_41_zero_bits(self):
        for behind in ([], [0], [1], [0] * 100, [1] * 100):
            self.assertEqual(self.found(read_gamma, [0] * 41 + behind, 0), ("InvalidWord", 0))
            self.assertEqual(self.found(read_gamma, [0, 1, 1] + [0] * 41 + behind, 3), ("InvalidWord", 3))
        self.assertEqual(self.found(read_gamma, gamma_bits(2 * TOP), 0), ("InvalidWord", 0))


class Delta(IntegerCase):
    def test_examples(self):
        self.assertEqual(delta_bits(5), [0, 1, 1, 0, 1])
        self.assertEqual(read_delta([1, 0, 1, 1, 0, 1], 1), (5, 6))
        for n, text in ((1, "1"), (2, "0100"), (3, "0101"), (4, "01100"), (8, "00100000"), (15, "00100111")):
            self.assertEqual(delta_bits(n), bits_of(text))

    def test_many_integers(self):
        for n in many_integers():
            self.assertEqual(delta_bits(n), reference_bits.delta(n))

    def test_great_integers(self):
        for n in (TOP, TOP + 1, 1 << 64, 3 ** 100):
            self.assertEqual(delta_bits(n), reference_bits.delta(n))

    def test_40_bits(self):
        for n in (TOP >> 1, TOP - 2, TOP - 1):
            self.assertEqual(delta_bits(n)[:11], gamma_bits(40))
            self.assertEqual(read_delta([0, 1] + delta_bits(n) + [1], 2), (n, 2 + 11 + 39))
        self.assertEqual(self.found(read_delta, gamma_bits(40), 0), ("Truncated", 11))
        self.assertEqual(self.found(read_delta, gamma_bits(40) + [1] * 38, 0), ("Truncated", 49))

    def test_41_bits(self):
        for told in (41, 42, 100, 1 << 20, 2 * TOP - 1):
            for behind in ([], [1], [0] * 200):
                self.assertEqual(self.found(read_delta, gamma_bits(told) + behind, 0), ("InvalidWord", 0))
                self.assertEqual(self.found(read_delta, [1, 0] + gamma_bits(told) + behind, 2), ("InvalidWord", 2))
        self.assertEqual(self.found(read_delta, delta_bits(TOP), 0), ("InvalidWord", 0))

    def test_40_and_41_zero_bits_inside(self):
        self.assertEqual(self.found(read_delta, [1, 1] + [0] * 40, 2), ("Truncated", 42))
        self.assertEqual(self.found(read_delta, [1, 1] + [0] * 40 + [1] * 40, 2), ("Truncated", 82))
        self.assertEqual(self.found(read_delta, [1, 1] + [0] * 40 + [1] * 41, 2), ("InvalidWord", 2))
        self.assertEqual(self.found(read_delta, [1, 1] + [0] * 41, 2), ("InvalidWord", 2))
        # a number of bits that is not read to its end tells nothing yet
        self.assertEqual(self.found(read_delta, gamma_bits(41)[:-1], 0), ("Truncated", 10))


class Rice(IntegerCase):
    def test_examples(self):
        self.assertEqual(rice_bits(1, 5), [1, 1, 0, 1])
        for k, n, text in ((0, 0, "0"), (0, 1, "10"), (0, 3, "1110"), (2, 0, "000"), (2, 6, "1010"), (3, 7, "0111"),
                           (3, 8, "10000"), (20, 0, "0" * 21), (20, 1, "0" * 20 + "1")):
            self.assertEqual(rice_bits(k, n), bits_of(text))

    def test_many_integers(self):
        for k in PARAMETERS:
            for n in rice_integers(k):
                self.assertEqual(rice_bits(k, n), reference_bits.rice(k, n))

    def test_parameter_20(self):
        for n in ((1 << 20) - 1, 1 << 20, (1 << 20) + 1, 1000 << 20):
            self.assertEqual(rice_bits(20, n), reference_bits.rice(20, n))
        self.assertEqual(rice_bits(20, (1 << 20) - 1), [0] + [1] * 20)
        self.assertEqual(rice_bits(20, 1 << 20), [1, 0] + [0] * 20)

    def test_100000_bits(self):
        for k in (0, 20):
            n = (99999 - k) << k
            bits = rice_bits(k, n)
            self.assertEqual(len(bits), 100000)
            self.assertEqual(read_rice(k, bits, 0), (n, 100000))
            self.assertEqual(self.found(read_rice, k, bits[:-1], 0), ("Truncated", 99999))

    def test_no_word_is_invalid(self):
        self.assertEqual(read_rice(3, [0] * 45, 41), (0, 45))
        self.assertEqual(read_rice(0, [1] * 50 + [0], 3), (47, 51))


class Fibonacci(IntegerCase):
    def test_examples(self):
        self.assertEqual(fibonacci_bits(11), [0, 0, 1, 0, 1, 1])
        for n, text in ((1, "11"), (2, "011"), (3, "0011"), (4, "1011"), (5, "00011"), (6, "10011"), (7, "01011"),
                        (8, "000011"), (12, "101011")):
            self.assertEqual(fibonacci_bits(n), bits_of(text))

    def test_many_integers(self):
        for n in many_integers():
            self.assertEqual(fibonacci_bits(n), reference_bits.fibonacci(n))

    def test_all_sums(self):
        # every list of bits without two neighbours 1 that ends in 1 belongs to one integer
        terms = [1, 2, 3, 5, 8, 13, 21, 34, 55, 89]
        found = {}
        for count in range(1, 11):
            for bits in reference.all_bits(count):
                if bits[-1] == 1 and [1, 1] not in [bits[at:at + 2] for at in range(count)]:
                    found[sum(bit * term for bit, term in zip(bits, terms))] = bits + [1]
        self.assertEqual(sorted(found), list(range(1, 144)))
        for n, bits in found.items():
            self.assertEqual(fibonacci_bits(n), bits)
            self.assertEqual(read_fibonacci(bits, 0), (n, len(bits)))

    def test_great_integers(self):
        for n in (TOP, 1 << 64, 3 ** 100):
            self.assertEqual(fibonacci_bits(n), reference_bits.fibonacci(n))

    def test_60_bits(self):
        bits = [0, 1] * 29 + [1, 0]
        self.assertEqual(read_fibonacci(bits, 0), (sum(reference_bits.fibonacci_up_to(10 ** 12)[1:58:2]), 59))
        self.assertEqual(read_fibonacci([0] * 58 + [1, 1], 0)[1], 60)

    def test_zero_bits_without_an_end(self):
        for count in (0, 1, 5, 60):
            self.assertEqual(self.found(read_fibonacci, [0] * count, 0), ("Truncated", count))
            self.assertEqual(self.found(read_fibonacci, [1, 1] + [0] * count + [1], 2), ("Truncated", count + 3))

    def test_the_bit_before_is_no_part_of_the_code(self):
        self.assertEqual(read_fibonacci([1, 1, 0, 1, 1], 1), (4, 5))


class Reading(IntegerCase):
    def test_kinds_of_values(self):
        for bits, read in ((gamma_bits(5), read_gamma), (delta_bits(5), read_delta),
                           (fibonacci_bits(5), read_fibonacci)):
            self.assertIs(type(bits), list)
            found = read(bits, 0)
            self.assertIs(type(found), tuple)
            self.assertEqual([type(part) for part in found], [int, int])
        self.assertIs(type(rice_bits(2, 5)), list)
        self.assertIs(type(read_rice(2, rice_bits(2, 5), 0)), tuple)

    def test_each_code_whatever_stands_before_and_behind(self):
        for n, bits, read in coded():
            for before in ([], [0], [1], [0, 0, 1], [1, 1, 1, 0]):
                for behind in ([], [0], [1], [0] * 50, [1] * 50):
                    end = len(before) + len(bits)
                    self.assertEqual(read(before + bits + behind, len(before)), (n, end))

    def test_each_code_cut_off_at_each_place(self):
        for _, bits, read in coded():
            # a long run of equal bits is the same wherever it is cut off
            cuts = range(len(bits)) if len(bits) < 100 else [0, 1, 50, len(bits) - 21, len(bits) - 2, len(bits) - 1]
            for cut in cuts:
                self.assertEqual(self.found(read, bits[:cut], 0), ("Truncated", cut))
                self.assertEqual(self.found(read, [0, 1] + bits[:cut], 2), ("Truncated", cut + 2))

    def test_codes_one_after_the_other(self):
        integers = many_integers()
        bits = [bit for n in integers for bit in gamma_bits(n) + delta_bits(n) + rice_bits(5, n % 99)
                + fibonacci_bits(n)]
        place = 0
        for n in integers:
            found, place = read_gamma(bits, place)
            other, place = read_delta(bits, place)
            third, place = read_rice(5, bits, place)
            fourth, place = read_fibonacci(bits, place)
            self.assertEqual([found, other, third, fourth], [n, n, n % 99, n])
        self.assertEqual(place, len(bits))

    def test_no_code_begins_another_one(self):
        for codes in ([gamma_bits(n) for n in many_integers()], [delta_bits(n) for n in many_integers()],
                      [fibonacci_bits(n) for n in many_integers()],
                      *([rice_bits(k, n) for n in rice_integers(k)] for k in PARAMETERS)):
            ordered = sorted(codes)
            for code, following in zip(ordered, ordered[1:]):
                self.assertNotEqual(following[:len(code)], code)

    def test_all_small_bits_at_each_place(self):
        for bits in (bits for count in range(10) for bits in reference.all_bits(count)):
            for at in range(len(bits) + 1):
                self.assertEqual(self.found(read_gamma, bits, at), reference_bits.read_integer("gamma", bits, at))
                self.assertEqual(self.found(read_delta, bits, at), reference_bits.read_integer("delta", bits, at))
                self.assertEqual(self.found(read_fibonacci, bits, at),
                                 reference_bits.read_integer("fibonacci", bits, at))
                for k in (0, 1, 3):
                    self.assertEqual(self.found(read_rice, k, bits, at),
                                     reference_bits.read_integer("rice", bits, at, k))

    def test_flipped_bits(self):
        for n in around_powers():
            for name, bits, read in (("gamma", gamma_bits(n), read_gamma), ("delta", delta_bits(n), read_delta)):
                for place in range(len(bits)):
                    flipped = bits[:place] + [1 - bits[place]] + bits[place + 1:] + [0, 1, 1, 0]
                    self.assertEqual(self.found(read, flipped, 0), reference_bits.read_integer(name, flipped, 0))


if __name__ == "__main__":
    unittest.main()
