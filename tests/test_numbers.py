"""Points 07.1 to 07.4: messages as numbers."""

import unittest
from itertools import product

from kraftroom.errors import KraftroomError, Truncated
from kraftroom.models import Context, Counts, Learner
from kraftroom.numbers import pack, pack_words, pop, push, unpack, unpack_words
from tests import reference
from tests.test_intervals import LONG, long_messages, occurring, small_models
from tests.test_least import scattered

FIRST_STATE = 1 << 16
LAST_STATE = (1 << 24) - 1
GREAT = [0, 1, 2, 7, 1000, (1 << 64) - 1, 1 << 64, (1 << 64) + 1, 3 ** 100, 10 ** 300 + 7]
# the totals are 1, 2, 4, 8, 256, 65536
FITTING = [[1], [0, 1, 0], [1, 1], [1, 3], [2, 0, 1, 5, 0], [250, 1, 5], [1] * 64 + [192], [65535, 1], [1, 65535],
           [0, 65536], [1, 0, 16384, 49151], [1024] * 64]


def numbers_of(low, weight, total, count):
    """The first numbers, ascending, at which a symbol stands."""
    found = []
    number = 0
    while len(found) < count:
        if low <= number % total < low + weight:
            found.append(number)
        number += 1
    return found


def weights_of(model):
    return [model.weight(symbol) for symbol in range(model.size())]


def pushed(weights, symbol, number):
    """The number at which a symbol stands for the time of this number, all by the weights."""
    turns, place = divmod(number, weights[symbol])
    return turns * sum(weights) + sum(weights[:symbol]) + place


def packed(told, message, number):
    """The number after packing, told by the weights before each symbol."""
    for at in range(len(message) - 1, -1, -1):
        number = pushed(told.after(message[:at]), message[at], number)
    return number


def packed_words(weights, message):
    """The state and words: before each symbol as many words are taken as let the next state keep its range."""
    state = FIRST_STATE
    found = []
    for symbol in reversed(message):
        fitting = [count for count in range(4)
                   if FIRST_STATE <= pushed(weights, symbol, state >> 8 * count) <= LAST_STATE]
        count = fitting[0]
        assert len(fitting) == 1
        for _ in range(count):
            found.insert(0, state % 256)
            state //= 256
        state = pushed(weights, symbol, state)
    return state, found


def message_of(weights, count, spread):
    """A message of symbols that have weights."""
    able = [symbol for symbol, weight in enumerate(weights) if weight > 0]
    return [able[number % len(able)] for number in scattered(count, spread)]


class Push(unittest.TestCase):
    def test_numbers_of_the_symbol_in_their_order(self):
        for total in range(1, 7):
            for low in range(total):
                for weight in range(1, total - low + 1):
                    expected = numbers_of(low, weight, total, 20)
                    self.assertEqual([push(low, weight, total, number) for number in range(20)], expected)

    def test_number_0(self):
        self.assertEqual([push(0, 1, 1, 0), push(0, 3, 7, 0), push(2, 1, 7, 0), push(6, 1, 7, 0)], [0, 0, 2, 6])

    def test_total_1(self):
        for number in GREAT:
            self.assertEqual(push(0, 1, 1, number), number)

    def test_total_65536(self):
        self.assertEqual(push(65535, 1, 65536, 3), 3 * 65536 + 65535)
        self.assertEqual(push(0, 65535, 65536, 65534), 65534)
        self.assertEqual(push(0, 65535, 65536, 65535), 65536)
        self.assertEqual(push(1, 65535, 65536, 65535), 65537)

    def test_great_numbers(self):
        for number in GREAT:
            self.assertEqual(push(1, 3, 4, number), number // 3 * 4 + 1 + number % 3)
            self.assertEqual(push(5, 1, 1000000, number), number * 1000000 + 5)
            self.assertIs(type(push(1, 3, 4, number)), int)


class Pop(unittest.TestCase):
    def test_each_number_belongs_to_one_symbol(self):
        for weights in ([1], [4], [1, 3], [3, 1], [0, 2, 0, 0, 3, 0], [2, 2, 2]):
            model = Counts(weights)
            times = [0] * len(weights)
            for number in range(5 * sum(weights) + 3):
                symbol, rest = pop(model, number)
                # the remaining number tells for which time the symbol is met
                self.assertEqual(rest, times[symbol])
                times[symbol] += 1
                self.assertEqual(symbol, [at for at, weight in enumerate(weights) for _ in range(weight)]
                                 [number % sum(weights)])

    def test_kinds_of_values(self):
        found = pop(Counts([1, 3]), 27)
        self.assertIs(type(found), tuple)
        self.assertEqual([type(part) for part in found], [int, int])

    def test_popping_undoes_pushing(self):
        for model, _ in small_models() + LONG:
            for symbol, weight in enumerate(weights_of(model)):
                for number in GREAT if weight else []:
                    told = push(model.low(symbol), weight, model.total(), number)
                    self.assertEqual(pop(model, told), (symbol, number))

    def test_pushing_undoes_popping(self):
        for model, _ in small_models() + LONG:
            for number in GREAT + list(range(30)):
                symbol, rest = pop(model, number)
                self.assertGreater(model.weight(symbol), 0)
                self.assertEqual(push(model.low(symbol), model.weight(symbol), model.total(), rest), number)

    def test_model_as_it_is(self):
        model = Learner(2, 2, 100)
        self.assertEqual(pop(model, 5), (1, 2))
        model.learn(0)
        # the weights are 3 and 1 now
        self.assertEqual([pop(model, 5), pop(model, 7)], [(0, 4), (1, 1)])
        self.assertEqual([pop(model, 5), model.weight(0)], [(0, 4), 3])
        model = Context(2, 2, 100)
        model.learn(1)
        self.assertEqual(pop(model, 5), (1, 2))
        model.learn(1)
        self.assertEqual([pop(model, 5), pop(model, 4)], [(1, 3), (0, 1)])


class Pack(unittest.TestCase):
    def test_example_of_the_interface(self):
        model = Counts([1, 3])
        self.assertEqual([pack(model, [1, 0], 5), unpack(model, 27, 2)], [27, ([1, 0], 5)])

    def test_kinds_of_values(self):
        found = unpack(Counts([1, 3]), 27, 2)
        self.assertIs(type(found), tuple)
        self.assertEqual([type(found[0]), type(found[1]), type(pack(Counts([1]), [0], 0))], [list, int, int])

    def test_empty_message(self):
        for model, _ in small_models() + LONG:
            for number in GREAT:
                self.assertEqual(pack(model, [], number), number)
                self.assertEqual(unpack(model, number, 0), ([], number))

    def test_number_0(self):
        for model, told in small_models():
            for length in range(4):
                for message in occurring(told, length):
                    self.assertEqual(pack(model, message, 0), packed(told, message, 0))
                self.assertEqual(pack(model, *unpack(model, 0, length)), 0)
        self.assertEqual(pack(Counts([1, 3]), [0] * 9, 0), 0)
        self.assertEqual(pack(Counts([1, 1]), [1, 0, 1, 1], 0), 0b1101)

    def test_last_symbol_is_pushed_first(self):
        self.assertEqual(pack(Counts([1, 9]), [0, 1], 0), push(0, 1, 10, push(1, 9, 10, 0)))
        self.assertEqual([pack(Counts([1, 9]), [0, 1], 0), pack(Counts([1, 9]), [1, 0], 0)], [10, 1])

    def test_all_small_messages(self):
        for model, told in small_models():
            for length in range(4):
                for message in occurring(told, length):
                    for number in (0, 1, 5, 1 << 64, 3 ** 100):
                        found = pack(model, message, number)
                        self.assertEqual(found, packed(told, message, number))
                        self.assertEqual(unpack(model, found, length), (message, number))

    def test_one_to_one_with_all_numbers(self):
        for model, _ in small_models():
            for length in range(4):
                pairs = [unpack(model, number, length) for number in range(300)]
                self.assertEqual([pack(model, *pair) for pair in pairs], list(range(300)))
                self.assertEqual(len({(tuple(message), rest) for message, rest in pairs}), 300)

    def test_24_symbols(self):
        for model, told in LONG:
            for message in long_messages(told):
                for number in GREAT:
                    found = pack(model, message, number)
                    self.assertEqual(found, packed(told, message, number))
                    self.assertEqual(unpack(model, found, 24), (message, number))

    def test_beginning_of_a_message(self):
        for model, told in LONG:
            for message in long_messages(told):
                number = pack(model, message, 7)
                for count in (1, 5, 23):
                    self.assertEqual(unpack(model, number, count)[0], message[:count])

    def test_great_numbers(self):
        for model, _ in LONG:
            for number in GREAT:
                for count in (1, 2, 24, 100):
                    message, rest = unpack(model, number, count)
                    self.assertEqual(len(message), count)
                    self.assertEqual(pack(model, message, rest), number)

    def test_totals_1_and_65536(self):
        for weights in ([1], [0, 1, 0], [65535, 1], [1, 65535], [0, 65536], [1024] * 64):
            model = Counts(weights)
            for spread in (2, 1000):
                message = message_of(weights, 40, spread)
                for number in GREAT:
                    found = pack(model, message, number)
                    self.assertEqual(found, packed(reference.FixedWeights(weights), message, number))
                    self.assertEqual(unpack(model, found, 40), (message, number))
        self.assertEqual(pack(Counts([1]), [0] * 24, 12345), 12345)
        self.assertEqual(pack(Counts([1, 65535]), [0] * 3, 1), 1 << 48)

    def test_symbols_with_the_weight_0(self):
        model = Counts([0, 3, 0, 0, 2, 0])
        for number in range(200):
            message, rest = unpack(model, number, 3)
            self.assertLessEqual(set(message), {1, 4})
            self.assertEqual(pack(model, message, rest), number)

    def test_3000_symbols(self):
        message = scattered(3000, 4)
        for model in (Counts([5, 1, 1, 9]), Learner(4, 8, 1000), Context(4, 8, 1000)):
            self.assertEqual(unpack(model, pack(model, message, 5), 3000), (message, 5))


class PackWords(unittest.TestCase):
    def test_kinds_of_values(self):
        found = pack_words(Counts([1, 3]), [1, 0, 1])
        self.assertIs(type(found), tuple)
        self.assertEqual([type(part) for part in found], [int, list])
        found = unpack_words(Counts([1, 3]), FIRST_STATE, [], 0)
        self.assertIs(type(found), tuple)
        self.assertEqual([type(part) for part in found], [list, int, int])

    def test_empty_message(self):
        for weights in FITTING:
            self.assertEqual(pack_words(Counts(weights), []), (FIRST_STATE, []))
            for state in (FIRST_STATE, 1234567, LAST_STATE):
                for words in ([], [5, 6]):
                    self.assertEqual(unpack_words(Counts(weights), state, words, 0), ([], state, 0))

    def test_small_messages_by_hand(self):
        # each symbol doubles the state; from 1 << 24 on there would be a word
        model = Counts([1, 1])
        self.assertEqual(pack_words(model, [1]), ((1 << 17) + 1, []))
        self.assertEqual(pack_words(model, [0] * 7), (1 << 23, []))
        self.assertEqual(pack_words(model, [1] * 7), ((1 << 23) + 127, []))
        # the state is not less than (1 << 23) * 1 then: its lowest bits become a word
        self.assertEqual(pack_words(model, [0] * 8), (1 << 16, [0]))
        self.assertEqual(pack_words(model, [0, 1, 1, 1, 1, 1, 1, 1]), (1 << 16, [127]))
        self.assertEqual(pack_words(model, [1] * 8), ((1 << 16) + 1, [127]))
        # two words for each symbol of the weight 1 of 65536, the last one first
        model = Counts([65535, 1])
        self.assertEqual(pack_words(model, [1]), (65536 + 65535, [0, 0]))
        self.assertEqual(pack_words(model, [1, 1]), (65536 + 65535, [255, 255, 0, 0]))
        self.assertEqual(pack_words(model, [1, 1, 0]), (65536 + 65535, [255, 255, 0, 1]))

    def test_bound_of_a_symbol(self):
        # the bounds are 1 << 22 and 3 << 22, and three symbols 0 lead to the state 1 << 22
        model = Counts([1, 3])
        self.assertEqual(pack_words(model, [0] * 3), (1 << 22, []))
        self.assertEqual(pack_words(model, [0] * 4), (1 << 16, [0]))
        self.assertEqual(pack_words(model, [1] + [0] * 3), ((1 << 22) // 3 * 4 + 1 + 1, []))
        self.assertEqual(pack_words(model, [0, 1]), ((1 << 16) // 3 * 16 + 8, []))

    def test_total_1(self):
        for weights, symbol in (([1], 0), ([0, 1, 0], 1)):
            model = Counts(weights)
            for count in (1, 2, 100):
                self.assertEqual(pack_words(model, [symbol] * count), (FIRST_STATE, []))
                for state in (FIRST_STATE, LAST_STATE):
                    self.assertEqual(unpack_words(model, state, [9], count), ([symbol] * count, state, 0))

    def test_all_small_messages(self):
        for weights in ([1], [1, 1], [1, 3], [2, 0, 1, 5, 0], [250, 1, 5], [65535, 1], [1, 0, 16384, 49151]):
            told = reference.FixedWeights(weights)
            for length in range(6):
                for message in occurring(told, length):
                    state, words = pack_words(Counts(weights), message)
                    self.assertEqual((state, words), packed_words(weights, message))
                    self.assertEqual(unpack_words(Counts(weights), state, words, length),
                                     (message, FIRST_STATE, len(words)))

    def test_3000_symbols(self):
        for weights in FITTING:
            model = Counts(weights)
            for spread in (1, 2, 1000, 1 << 20):
                message = message_of(weights, 3000, spread)
                state, words = pack_words(model, message)
                self.assertTrue(FIRST_STATE <= state <= LAST_STATE)
                self.assertTrue(all(0 <= word <= 255 for word in words))
                self.assertEqual((state, words), packed_words(weights, message))
                self.assertEqual(unpack_words(model, state, words, 3000), (message, FIRST_STATE, len(words)))

    def test_states_at_both_ends_are_reached(self):
        # of all states that one symbol is pushed on, the least and the greatest one of the range
        for weights in ([1, 1], [1, 3], [250, 1, 5], [65535, 1], [1024] * 64):
            model = Counts(weights)
            for state in (FIRST_STATE, FIRST_STATE + 1, LAST_STATE - 1, LAST_STATE):
                symbol, rest = pop(model, state)
                message, end, used = unpack_words(model, state, [1, 2, 3], 1)
                self.assertEqual(message, [symbol])
                self.assertEqual(used, 0 if rest >= FIRST_STATE else 1 if rest >= 256 else 2)
                for word in (1, 2, 3)[:used]:
                    rest = rest * 256 + word
                self.assertEqual(end, rest)
                self.assertTrue(FIRST_STATE <= end <= LAST_STATE)

    def test_words_are_added_only_below_the_first_state(self):
        model = Counts([1, 1])
        # 1 << 17 becomes 1 << 16, which is enough; (1 << 17) - 1 becomes one less, which is not
        self.assertEqual(unpack_words(model, 1 << 17, [7], 1), ([0], 1 << 16, 0))
        self.assertEqual(unpack_words(model, (1 << 17) - 1, [7], 1), ([1], ((1 << 16) - 1) * 256 + 7, 1))

    def test_words_behind(self):
        for weights in FITTING:
            message = message_of(weights, 50, 1000)
            state, words = pack_words(Counts(weights), message)
            for behind in ([0], [255], [1, 2, 3] * 10):
                self.assertEqual(unpack_words(Counts(weights), state, words + behind, 50),
                                 (message, FIRST_STATE, len(words)))

    def test_words_that_are_cut_off(self):
        for weights in FITTING:
            message = message_of(weights, 50, 1000)
            state, words = pack_words(Counts(weights), message)
            for count in range(len(words)):
                with self.assertRaises(KraftroomError) as caught:
                    unpack_words(Counts(weights), state, words[:count], 50)
                self.assertIs(type(caught.exception), Truncated)
                self.assertEqual(caught.exception.place, count)

    def test_more_symbols_than_were_packed(self):
        with self.assertRaises(Truncated) as caught:
            unpack_words(Counts([1, 1]), FIRST_STATE, [], 1)
        self.assertEqual(caught.exception.place, 0)
        state, words = pack_words(Counts([1, 1]), [1, 0] * 20)
        with self.assertRaises(Truncated) as caught:
            unpack_words(Counts([1, 1]), state, words, 41)
        self.assertEqual(caught.exception.place, len(words))

    def test_beginning_of_a_message(self):
        weights = [250, 1, 5]
        message = message_of(weights, 60, 1000)
        state, words = pack_words(Counts(weights), message)
        before = -1
        for count in range(61):
            found, rest, used = unpack_words(Counts(weights), state, words, count)
            self.assertEqual(found, message[:count])
            self.assertTrue(FIRST_STATE <= rest <= LAST_STATE)
            # what remains is the rest of the message, packed
            self.assertEqual((rest, words[used:]), pack_words(Counts(weights), message[count:]))
            self.assertGreaterEqual(used, before)
            before = used

    def test_any_words(self):
        # a state and words that are not of any message are read as far as they go
        for weights in ([1, 1], [1, 3], [250, 1, 5], [65535, 1]):
            for words, state in product(product((0, 1, 255), repeat=3), (FIRST_STATE, 99999, LAST_STATE)):
                for count in (1, 2, 3, 5, 30):
                    try:
                        message, rest, used = unpack_words(Counts(weights), state, list(words), count)
                    except Truncated as error:
                        self.assertEqual(error.place, 3)
                    else:
                        self.assertEqual([len(message), FIRST_STATE <= rest <= LAST_STATE], [count, True])
                        self.assertLessEqual(used, 3)


class FreshModel(unittest.TestCase):
    def test_functions_begin_with_a_fresh_model(self):
        message = [1, 1, 2, 0, 1]
        for model in (Learner(3, 4, 20), Context(3, 4, 20)):
            number = pack(model, message, 9)
            learned = model.fresh()
            for symbol in (2, 2, 1, 0, 2):
                learned.learn(symbol)
            before = weights_of(learned)
            self.assertEqual(pack(learned, message, 9), number)
            self.assertEqual(unpack(learned, number, 5), (message, 9))
            pop(learned, 1234)
            self.assertEqual(weights_of(learned), before)


if __name__ == "__main__":
    unittest.main()
