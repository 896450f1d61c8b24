"""Points 06.1 to 06.5: messages as fractions."""

import unittest
from fractions import Fraction
from itertools import product

from kraftroom.errors import KraftroomError, Undecided
from kraftroom.intervals import decode_message, encode_message, interval, least_exponent
from kraftroom.models import Context, Counts, Learner
from tests import reference
from tests.test_least import scattered

FIXED = [[1], [5], [1, 3], [3, 1], [1, 1], [2, 0, 3], [0, 4], [0, 4, 0], [1, 1, 1], [7, 1, 0, 2], [1, 1000000]]
LEARNED = [(1, 0, 1), (1, 5, 3), (2, 1, 2), (2, 0, 9), (2, 3, 7), (3, 4, 8), (3, 100, 1000)]
LONG = [
    (Counts([1, 3]), reference.FixedWeights([1, 3])),
    (Counts([999999, 1, 0, 1000000]), reference.FixedWeights([999999, 1, 0, 1000000])),
    (Counts([1] * 64), reference.FixedWeights([1] * 64)),
    (Learner(3, 4, 8), reference.LearnedWeights(3, 4, 8)),
    (Learner(64, 100, 10000), reference.LearnedWeights(64, 100, 10000)),
    (Learner(16, 8, 1000), reference.LearnedWeights(16, 8, 1000)),
    (Context(4, 7, 100), reference.ContextWeights(4, 7, 100)),
    (Context(64, 100, 10000), reference.ContextWeights(64, 100, 10000)),
]


def small_models():
    """Pairs of a model and of what tells its weights."""
    found = [(Counts(weights), reference.FixedWeights(weights)) for weights in FIXED]
    for size, step, limit in LEARNED:
        found.append((Learner(size, step, limit), reference.LearnedWeights(size, step, limit)))
        found.append((Context(size, step, limit), reference.ContextWeights(size, step, limit)))
    return found


def occurring(told, length):
    """All messages of a length whose symbols have weights."""
    found = [[]]
    for _ in range(length):
        found = [message + [symbol] for message in found
                 for symbol, weight in enumerate(told.after(message)) if weight > 0]
    return found


def long_messages(told):
    """Messages of 24 symbols."""
    size = len(told.after([]))
    able = [symbol for symbol in range(size) if told.after([])[symbol] > 0]
    for symbols in (scattered(24, len(able)), [0] * 24, [len(able) - 1] * 24, scattered(23, 2) + [len(able) - 1]):
        yield [able[symbol] for symbol in symbols]


class Interval(unittest.TestCase):
    def test_example_of_the_interface(self):
        self.assertEqual(interval(Counts([1, 3]), [1, 0]), (4, 3, 16))

    def test_empty_message(self):
        for model, _ in small_models() + LONG:
            self.assertEqual(interval(model, []), (0, 1, 1))

    def test_kinds_of_values(self):
        found = interval(Counts([1, 3]), [1, 0])
        self.assertIs(type(found), tuple)
        self.assertEqual([type(number) for number in found], [int, int, int])

    def test_nothing_is_reduced(self):
        self.assertEqual(interval(Counts([2, 6]), [1, 0]), (16, 12, 64))
        self.assertEqual(interval(Counts([5]), [0, 0, 0]), (0, 125, 125))
        self.assertEqual(interval(Counts([0, 4, 0]), [1, 1]), (0, 16, 16))

    def test_weights_that_are_learned(self):
        # [1, 1, 1], then [1, 5, 1], then [1, 9, 1] halved
        self.assertEqual(interval(Learner(3, 4, 8), [1]), (1, 1, 3))
        self.assertEqual(interval(Learner(3, 4, 8), [1, 1]), (1 * 7 + 1 * 1, 5, 21))
        self.assertEqual(interval(Learner(3, 4, 8), [1, 1, 2]), (8 * 7 + 5 * 6, 5, 147))

    def test_weights_behind_a_symbol(self):
        # [1, 1] before all symbols; [1, 1] behind the 1; then [4, 1] behind the 1
        self.assertEqual(interval(Context(2, 3, 10), [1, 0]), (2, 1, 4))
        self.assertEqual(interval(Context(2, 3, 10), [1, 0, 1]), (2 * 5 + 1 * 1, 1 * 4, 20))

    def test_all_small_messages(self):
        for model, told in small_models():
            for length in range(4):
                for message in occurring(told, length):
                    low, width, whole = interval(model, message)
                    expected = 1
                    for at in range(length):
                        expected *= sum(told.after(message[:at]))
                    self.assertEqual(whole, expected)
                    part = reference.part_of(told, message)
                    self.assertEqual((Fraction(low, whole), Fraction(low + width, whole)), part)

    def test_intervals_of_one_length_do_not_overlap(self):
        for model, told in small_models():
            for length in range(4):
                parts = sorted((Fraction(low, whole), Fraction(low + width, whole)) for low, width, whole in
                               (interval(model, message) for message in occurring(told, length)))
                # they even fill the whole: each one begins where the one before it ends
                self.assertEqual([parts[0][0], parts[-1][1]], [0, 1])
                self.assertEqual([part[1] for part in parts[:-1]], [part[0] for part in parts[1:]])

    def test_24_symbols(self):
        for model, told in LONG:
            for message in long_messages(told):
                low, width, whole = interval(model, message)
                self.assertEqual((Fraction(low, whole), Fraction(low + width, whole)),
                                 reference.part_of(told, message))
        self.assertEqual(interval(Counts([1] * 64), [1] * 24), ((64 ** 24 - 1) // 63, 1, 64 ** 24))


class LeastExponent(unittest.TestCase):
    def test_small_numbers(self):
        for width in range(1, 40):
            for whole in range(1, 140):
                found = least_exponent(width, whole)
                self.assertIs(type(found), int)
                self.assertEqual(found, next(e for e in range(20) if width * 2 ** e >= whole), (width, whole))

    def test_width_that_is_not_less_than_the_whole(self):
        for width, whole in ((1, 1), (5, 5), (5, 4), (100, 1), (10 ** 30, 10 ** 30)):
            self.assertEqual(least_exponent(width, whole), 0)

    def test_powers_of_two(self):
        for e in (1, 2, 10, 63, 64, 65, 300):
            self.assertEqual(least_exponent(1, 1 << e), e)
            self.assertEqual(least_exponent(1, (1 << e) + 1), e + 1)
            self.assertEqual(least_exponent(3, 3 << e), e)
            self.assertEqual(least_exponent(3, (3 << e) + 1), e + 1)
            self.assertEqual(least_exponent(3, (3 << e) - 1), e)

    def test_great_numbers(self):
        for width, whole in ((7 ** 50, 11 ** 60), (10 ** 40 - 1, 10 ** 80), (1, 64 ** 24)):
            e = least_exponent(width, whole)
            self.assertTrue(width << e >= whole > width << (e - 1))


class EncodeMessage(unittest.TestCase):
    def assert_code(self, model, told, message):
        found = encode_message(model, message)
        self.assertIs(type(found), list)
        self.assertEqual(found, reference.code_of(reference.part_of(told, message)), message)
        e = least_exponent(*interval(model, message)[1:])
        self.assertIn(len(found), (e, e + 1))
        return found

    def test_examples_of_the_interface(self):
        self.assertEqual(encode_message(Counts([1, 3]), [1, 1]), [1])
        self.assertEqual(encode_message(Counts([1, 3]), [0, 0]), [0, 0, 0, 0])

    def test_empty_message(self):
        for model, _ in small_models() + LONG:
            self.assertEqual(encode_message(model, []), [])

    def test_message_that_is_certain(self):
        self.assertEqual(encode_message(Counts([5]), [0] * 24), [])
        self.assertEqual(encode_message(Counts([0, 5, 0]), [1] * 24), [])
        self.assertEqual(encode_message(Learner(1, 5, 3), [0] * 24), [])
        self.assertEqual(encode_message(Context(1, 5, 3), [0] * 24), [])

    def test_least_exponent_is_enough(self):
        # 1/4 to 1/2, 1/2 to 1, 0 to 1/8
        self.assertEqual(encode_message(Counts([1, 1, 2]), [1]), [0, 1])
        self.assertEqual(encode_message(Counts([1, 1, 2]), [2]), [1])
        self.assertEqual(encode_message(Counts([1, 7]), [0]), [0, 0, 0])

    def test_one_bit_more_than_the_least_exponent(self):
        # 1/4 to 3/4 has the width 1/2, but does not begin at 0 or 1/2
        self.assertEqual(encode_message(Counts([1, 2, 1]), [1]), [0, 1])
        # 1/3 to 2/3
        self.assertEqual(encode_message(Counts([1, 1, 1]), [1]), [0, 1, 1])

    def test_least_of_several(self):
        # 1/5 to 4/5 holds 01 and 10; 1/8 to 1 holds 1 alone
        self.assertEqual(encode_message(Counts([1, 3, 1]), [1]), [0, 1])
        self.assertEqual(encode_message(Counts([1, 7]), [1]), [1])
        # 1/16 to 6/16 and 2/16 to 7/16 hold 001 and 010, but nothing shorter
        self.assertEqual(encode_message(Counts([1, 5, 10]), [1]), [0, 0, 1])
        self.assertEqual(encode_message(Counts([2, 5, 9]), [1]), [0, 0, 1])

    def test_shortest_of_all_bits(self):
        for model, told in small_models():
            for message in occurring(told, 2):
                part = reference.part_of(told, message)
                inside = (bits for count in range(9) for bits in reference.all_bits(count)
                          if reference.is_inside(bits, part))
                expected = next(inside, None)
                if expected is not None:
                    self.assertEqual(encode_message(model, message), expected)

    def test_all_small_messages(self):
        for model, told in small_models():
            for length in range(4):
                for message in occurring(told, length):
                    self.assert_code(model, told, message)

    def test_no_code_begins_another_one(self):
        for model, told in small_models():
            for length in range(4):
                codes = sorted(encode_message(model, message) for message in occurring(told, length))
                for code, following in zip(codes, codes[1:]):
                    self.assertNotEqual(following[:len(code)], code)

    def test_24_symbols(self):
        for model, told in LONG:
            for message in long_messages(told):
                self.assert_code(model, told, message)

    def test_numbers_longer_than_64_bits(self):
        self.assertEqual(encode_message(Counts([1] * 64), [63] * 24), [1] * 144)
        self.assertEqual(encode_message(Counts([1] * 64), [0] * 24), [0] * 144)
        self.assertEqual(encode_message(Counts([1] * 64), [1] * 24), [0, 0, 0, 0, 0, 1] * 24)
        self.assertEqual(len(encode_message(Counts([1, (1 << 40) - 1]), [0] * 24)), 960)


class DecodeMessage(unittest.TestCase):
    def decoded(self, model, bits, count):
        try:
            found = decode_message(model, bits, count)
        except KraftroomError as error:
            self.assertIs(type(error), Undecided)
            return error.name, error.place
        self.assertIs(type(found), list)
        return found

    def test_examples_of_the_interface(self):
        self.assertEqual(decode_message(Counts([1, 3]), [1, 0, 1], 2), [1, 1])
        with self.assertRaises(Undecided) as caught:
            decode_message(Counts([1, 3]), [], 1)
        self.assertEqual([caught.exception.name, caught.exception.place], ["Undecided", 0])

    def test_no_symbols(self):
        for model, _ in small_models():
            for bits in ([], [0], [1, 1, 0, 1]):
                self.assertEqual(decode_message(model, bits, 0), [])

    def test_empty_list_of_bits(self):
        self.assertEqual(decode_message(Counts([5]), [], 24), [0] * 24)
        self.assertEqual(decode_message(Counts([0, 5, 0]), [], 3), [1, 1, 1])
        self.assertEqual(decode_message(Learner(1, 5, 3), [], 24), [0] * 24)
        self.assertEqual(decode_message(Context(1, 0, 1), [], 24), [0] * 24)
        for model in (Counts([1, 1]), Counts([1, 0, 1000000]), Learner(2, 1, 2), Context(3, 4, 8)):
            self.assertEqual(self.decoded(model, [], 1), ("Undecided", 0))

    def test_undecided_has_the_number_of_symbols_so_far(self):
        model = Counts([1, 1])
        self.assertEqual(decode_message(model, [1, 0, 1], 3), [1, 0, 1])
        for count in (4, 5, 24):
            self.assertEqual(self.decoded(model, [1, 0, 1], count), ("Undecided", 3))
        self.assertEqual(self.decoded(Counts([1, 3]), [0], 1), ("Undecided", 0))
        self.assertEqual(self.decoded(Counts([1, 3]), [1], 3), ("Undecided", 2))

    def test_bits_that_reach_over_an_end(self):
        # 1/3 to 2/3: the bits 0, 1, 01 and 10 reach beyond it, on one side or the other
        model = Counts([1, 1, 1])
        for bits in ([0], [1], [0, 1], [1, 0]):
            self.assertEqual(self.decoded(model, bits, 1), ("Undecided", 0))
        for bits, message in (([0, 0], [0]), ([0, 1, 1], [1]), ([1, 0, 0], [1]), ([1, 1], [2])):
            self.assertEqual(decode_message(model, bits, 1), message)
        # ends that are met exactly belong to the interval
        self.assertEqual(decode_message(Counts([1, 2, 1]), [0, 1], 1), [1])
        self.assertEqual(decode_message(Counts([1, 2, 1]), [1, 0], 1), [1])
        self.assertEqual(decode_message(Counts([1, 2, 1]), [1, 1], 1), [2])

    def test_all_small_bits(self):
        for model, told in small_models():
            for bits in (bits for length in range(6) for bits in reference.all_bits(length)):
                for count in range(4):
                    expected = reference.decoding(told, bits, count)
                    self.assertEqual(self.decoded(model, bits, count), expected, (vars(model), bits, count))

    def test_message_exactly_if_its_interval_contains_the_bits(self):
        for model, told in small_models():
            for count in (1, 2):
                parts = [(message, reference.part_of(told, message)) for message in occurring(told, count)]
                for bits in (bits for length in range(7) for bits in reference.all_bits(length)):
                    inside = [message for message, part in parts if reference.is_inside(bits, part)]
                    found = self.decoded(model, bits, count)
                    if inside:
                        self.assertEqual([found], inside)
                    else:
                        self.assertEqual(found[0], "Undecided")

    def test_code_gives_the_message(self):
        for model, told in small_models():
            for length in range(4):
                for message in occurring(told, length):
                    self.assertEqual(decode_message(model, encode_message(model, message), length), message)

    def test_bits_behind_the_code(self):
        for model, told in small_models():
            for message in occurring(told, 3):
                code = encode_message(model, message)
                for behind in product((0, 1), repeat=4):
                    self.assertEqual(decode_message(model, code + list(behind), 3), message)
                self.assertEqual(decode_message(model, code + [0] * 100, 3), message)
                self.assertEqual(decode_message(model, code + [1] * 100, 3), message)

    def test_code_that_is_cut_off(self):
        for model, told in small_models():
            for message in occurring(told, 3):
                code = encode_message(model, message)
                for count in range(len(code)):
                    found = self.decoded(model, code[:count], 3)
                    self.assertEqual(found[0], "Undecided")
                    self.assertEqual(found, reference.decoding(told, code[:count], 3))

    def test_beginning_of_a_message(self):
        for model, told in LONG:
            for message in long_messages(told):
                code = encode_message(model, message)
                for count in (0, 1, 7, 23):
                    self.assertEqual(decode_message(model, code, count), message[:count])

    def test_24_symbols(self):
        for model, told in LONG:
            for message in long_messages(told):
                code = encode_message(model, message)
                self.assertEqual(decode_message(model, code, 24), message)
                self.assertEqual(decode_message(model, code + [1, 0, 1, 1], 24), message)
                self.assertEqual(decode_message(model, code + [0] * 70, 24), message)

    def test_24_symbols_that_are_cut_off(self):
        for model, told in LONG:
            for message in long_messages(told):
                code = encode_message(model, message)
                for cut in (1, 2, len(code) // 2, len(code)):
                    name, place = self.decoded(model, code[:len(code) - cut], 24)
                    self.assertEqual(name, "Undecided")
                    # so many symbols are decided, and the next one is not
                    self.assertEqual(decode_message(model, code[:len(code) - cut], place), message[:place])
                    self.assertEqual(self.decoded(model, code[:len(code) - cut], place + 1), ("Undecided", place))
                    low = code[:len(code) - cut]
                    self.assertTrue(reference.is_inside(low, reference.part_of(told, message[:place])))
                    self.assertFalse(reference.is_inside(low, reference.part_of(told, message[:place + 1])))

    def test_symbols_with_the_weight_0_are_never_decoded(self):
        for bits in reference.all_bits(7):
            found = self.decoded(Counts([0, 3, 0, 0, 2, 0]), bits, 2)
            self.assertTrue(found[0] == "Undecided" or set(found) <= {1, 4})


class FreshModel(unittest.TestCase):
    def test_functions_begin_with_a_fresh_model(self):
        for found in (Learner(3, 4, 20), Context(3, 4, 20)):
            message = [1, 1, 2, 0, 1]
            code = encode_message(found, message)
            learned = found.fresh()
            for symbol in (2, 2, 1, 0, 2):
                learned.learn(symbol)
            self.assertEqual(interval(learned, message), interval(found, message))
            self.assertEqual(encode_message(learned, message), code)
            self.assertEqual(decode_message(learned, code, 5), message)

    def test_the_model_that_is_passed_does_not_change(self):
        for model in (Counts([1, 0, 3]), Learner(3, 4, 20), Context(3, 4, 20)):
            model.learn(2)
            model.learn(2)
            before = [[model.total()] + [model.weight(symbol) for symbol in range(3)]]
            code = encode_message(model, [0, 2, 2])
            interval(model, [2, 0, 0])
            decode_message(model, code, 3)
            with self.assertRaises(Undecided):
                decode_message(model, code[:-1], 3)
            self.assertEqual([[model.total()] + [model.weight(symbol) for symbol in range(3)]], before)
            again = model.fresh()
            self.assertEqual(decode_message(again, code, 3), [0, 2, 2])


if __name__ == "__main__":
    unittest.main()
