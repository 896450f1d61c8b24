"""Points 04.1 to 04.4: codes in alphabetic order."""

import unittest
from itertools import product

from kraftroom.alphabetic import alphabetic_words, range_values, shows_least
from tests import reference
from tests.test_least import LISTS_16, scattered

# [1, 5, 1]: all ranges with their values, by hand.
THREE = {(0, 1): 0, (1, 2): 0, (2, 3): 0, (0, 2): 6, (1, 3): 6, (0, 3): 13}


def small_weights():
    """Lists of 1 to 4 weights with all ties and zeros, and some of 5 and 6 weights."""
    for count in (1, 2, 3, 4):
        for weights in product(range(4), repeat=count):
            yield list(weights)
    for spread in (1, 2, 3, 10, 1000001):
        yield scattered(5, spread)
        yield scattered(6, spread)


def large_weights():
    """Lists of up to 16 weights."""
    for count in (7, 12, 15, 16):
        for spread in (1, 2, 3, 10, 1000001):
            yield scattered(count, spread)
    for weights in LISTS_16:
        yield weights
        yield weights[::-1]


def cost_of_words(weights, words):
    return reference.cost_of(weights, [len(word) for word in words])


class RangeValues(unittest.TestCase):
    def test_example_of_the_interface(self):
        self.assertEqual(range_values([1, 5, 1])[(0, 3)], 13)

    def test_all_ranges(self):
        self.assertEqual(range_values([1, 5, 1]), THREE)
        self.assertEqual(range_values([2, 0, 3, 4]), {
            (0, 1): 0, (1, 2): 0, (2, 3): 0, (3, 4): 0, (0, 2): 2, (1, 3): 3, (2, 4): 7,
            (0, 3): 7, (1, 4): 10, (0, 4): 16})

    def test_one_weight(self):
        for weight in (0, 1, 1000000):
            self.assertEqual(range_values([weight]), {(0, 1): 0})

    def test_two_weights(self):
        self.assertEqual(range_values([3, 4]), {(0, 1): 0, (1, 2): 0, (0, 2): 7})
        self.assertEqual(range_values([0, 0]), {(0, 1): 0, (1, 2): 0, (0, 2): 0})

    def test_kinds_of_values(self):
        found = range_values([1, 5, 1])
        self.assertIs(type(found), dict)
        for key, value in found.items():
            self.assertEqual([type(key), type(value)], [tuple, int])

    def test_small_lists(self):
        for weights in small_weights():
            count = len(weights)
            expected = {(start, end): reference.range_words(weights, start, end, [])[1]
                        for start in range(count) for end in range(start + 1, count + 1)}
            self.assertEqual(range_values(weights), expected, weights)

    def test_large_lists(self):
        for weights in large_weights():
            count = len(weights)
            found = range_values(weights)
            self.assertEqual(sorted(found), [(start, end) for start in range(count)
                                             for end in range(start + 1, count + 1)])
            for start, end in found:
                self.assertEqual(found[(start, end)], reference.least_alphabetic_cost(weights[start:end]))

    def test_equal_weights(self):
        self.assertEqual(range_values([1] * 16)[(0, 16)], 64)
        self.assertEqual(range_values([1000000] * 16)[(0, 16)], 64000000)
        self.assertEqual(set(range_values([0] * 16).values()), {0})


class AlphabeticWords(unittest.TestCase):
    def test_example_of_the_interface(self):
        self.assertEqual(alphabetic_words([1, 5, 1]), [[0], [1, 0], [1, 1]])

    def test_one_weight_has_the_empty_word(self):
        for weight in (0, 1, 1000000):
            self.assertEqual(alphabetic_words([weight]), [[]])

    def test_two_weights(self):
        for weights in ([3, 4], [4, 3], [0, 0], [0, 9]):
            self.assertEqual(alphabetic_words(weights), [[0], [1]])

    def test_least_cut_of_equal_ones(self):
        self.assertEqual(alphabetic_words([1, 1, 1]), [[0], [1, 0], [1, 1]])
        self.assertEqual(alphabetic_words([2, 1, 2]), [[0], [1, 0], [1, 1]])
        self.assertEqual(alphabetic_words([1, 2, 1, 2, 1]), [[0, 0], [0, 1], [1, 0], [1, 1, 0], [1, 1, 1]])
        # with the weight 0 every cut is as good
        self.assertEqual(alphabetic_words([0] * 4), [[0], [1, 0], [1, 1, 0], [1, 1, 1]])
        self.assertEqual(alphabetic_words([0] * 16), [[1] * n + [0] for n in range(15)] + [[1] * 15])

    def test_heavy_symbols_get_short_words(self):
        self.assertEqual(alphabetic_words([1, 1, 9]), [[0, 0], [0, 1], [1]])
        self.assertEqual(alphabetic_words([9, 1, 1]), [[0], [1, 0], [1, 1]])
        self.assertEqual(alphabetic_words([1, 2, 30, 4]), [[0, 0, 0], [0, 0, 1], [0, 1], [1]])
        self.assertEqual(alphabetic_words([1, 1, 9, 1]), [[0, 0], [0, 1], [1, 0], [1, 1]])

    def test_kinds_of_values(self):
        found = alphabetic_words([1, 5, 1])
        self.assertEqual([type(word) for word in [found] + found], [list] * 4)

    def test_words_share_no_list(self):
        found = alphabetic_words([1, 1, 1, 1])
        found[0].append(7)
        self.assertEqual(found[1:], [[0, 1], [1, 0], [1, 1]])

    def test_small_lists(self):
        for weights in small_weights():
            expected = reference.range_words(weights, 0, len(weights), [])[0]
            self.assertEqual(alphabetic_words(weights), expected, weights)

    def test_seven_weights(self):
        for spread in (1, 2, 3, 1000001):
            weights = scattered(7, spread)
            self.assertEqual(alphabetic_words(weights), reference.range_words(weights, 0, 7, [])[0])

    def test_large_lists(self):
        for weights in large_weights():
            found = alphabetic_words(weights)
            self.assertEqual(len(found), len(weights))
            for word, following in zip(found, found[1:]):
                self.assertLess(word, following)
                self.assertNotEqual(following[:len(word)], word)
            self.assertEqual(cost_of_words(weights, found), reference.least_alphabetic_cost(weights))

    def test_each_cut_is_the_least_one(self):
        for weights in large_weights():
            table = range_values(weights)
            found = alphabetic_words(weights)
            waiting = [(0, len(weights), 0)]
            while waiting:
                start, end, depth = waiting.pop()
                if end > start + 1:
                    cut = start + [word[depth] for word in found[start:end]].index(1)
                    sums = [table[(start, k)] + table[(k, end)] for k in range(start + 1, end)]
                    self.assertEqual(cut, start + 1 + sums.index(min(sums)))
                    waiting.extend([(start, cut, depth + 1), (cut, end, depth + 1)])


class LeastCost(unittest.TestCase):
    def test_least_cost_of_all_alphabetic_codes(self):
        every = {count: reference.all_alphabetic_lengths(count) for count in (1, 2, 3, 4)}
        for weights in small_weights():
            count = len(weights)
            if count in every:
                least = min(reference.cost_of(weights, lengths) for lengths in every[count])
                self.assertEqual(range_values(weights)[(0, count)], least)
                self.assertEqual(cost_of_words(weights, alphabetic_words(weights)), least)


class ShowsLeast(unittest.TestCase):
    def assert_as_the_document_says(self, weights, cost, table):
        expected = reference.table_shows(weights, cost, table)
        self.assertIs(shows_least(weights, cost, table), expected, (weights, cost, table))

    def test_table_by_hand(self):
        self.assertIs(shows_least([1, 5, 1], 13, THREE), True)

    def test_another_cost(self):
        for cost in (-1, 0, 12, 14, 1000):
            self.assertIs(shows_least([1, 5, 1], cost, THREE), False)

    def test_value_raised(self):
        for key, value in THREE.items():
            self.assertIs(shows_least([1, 5, 1], 13, {**THREE, key: value + 1}), False, key)
        # not even if the cost is raised, too
        self.assertIs(shows_least([1, 5, 1], 14, {**THREE, (0, 3): 14}), False)

    def test_value_lowered(self):
        for key, value in THREE.items():
            self.assertIs(shows_least([1, 5, 1], 13, {**THREE, key: value - 1}), False, key)

    def test_value_lowered_where_it_holds_nothing_down(self):
        table = range_values([1, 1, 9])
        self.assertEqual([table[(1, 3)], table[(0, 3)]], [10, 13])
        self.assertIs(shows_least([1, 1, 9], 13, {**table, (1, 3): 9}), True)
        self.assertIs(shows_least([1, 1, 9], 13, {**table, (1, 3): 2}), True)
        self.assertIs(shows_least([1, 1, 9], 13, {**table, (1, 3): 1}), False)

    def test_one_symbol_above_0(self):
        self.assertIs(shows_least([7], 0, {(0, 1): 0}), True)
        self.assertIs(shows_least([7], 1, {(0, 1): 1}), False)
        self.assertIs(shows_least([7], 1, {(0, 1): 0}), False)
        self.assertIs(shows_least([7], 0, {(0, 1): -1}), False)
        # the document only forbids values above 0
        self.assertIs(shows_least([7], -1, {(0, 1): -1}), True)

    def test_two_weights(self):
        self.assertIs(shows_least([3, 4], 7, {(0, 1): 0, (1, 2): 0, (0, 2): 7}), True)
        self.assertIs(shows_least([3, 4], 8, {(0, 1): 0, (1, 2): 0, (0, 2): 8}), False)
        self.assertIs(shows_least([3, 4], 8, {(0, 1): 1, (1, 2): 0, (0, 2): 8}), False)
        self.assertIs(shows_least([3, 4], 7, {(0, 1): -1, (1, 2): 0, (0, 2): 7}), False)
        self.assertIs(shows_least([0, 0], 0, {(0, 1): 0, (1, 2): 0, (0, 2): 0}), True)

    def test_made_tables(self):
        for weights in list(small_weights()) + list(large_weights()):
            least = reference.least_alphabetic_cost(weights)
            table = range_values(weights)
            self.assertIs(shows_least(weights, least, table), True)
            self.assertIs(shows_least(weights, least + 1, table), False)
            self.assertIs(shows_least(weights, least - 1, table), False)

    def test_order_of_the_keys_is_free(self):
        table = range_values(LISTS_16[1])
        cost = table[(0, 16)]
        self.assertIs(shows_least(LISTS_16[1], cost, {key: table[key] for key in reversed(list(table))}), True)

    def test_each_value_changed(self):
        for weights in [[5], [3, 1], [2, 2, 2], [0, 7, 0, 7], [1, 2, 3, 4, 5], [0, 0, 9, 4, 4, 1], [0] * 5]:
            table = range_values(weights)
            cost = table[(0, len(weights))]
            for key, value in table.items():
                for other in (value - 1, value + 1, value - 100, value + 100, 0):
                    changed = {**table, key: other}
                    self.assert_as_the_document_says(weights, cost, changed)
                    self.assert_as_the_document_says(weights, changed[(0, len(weights))], changed)

    def test_16_weights_with_a_changed_value(self):
        for weights in LISTS_16:
            table = range_values(weights)
            for key, value in list(table.items())[::7] + [((0, 16), table[(0, 16)])]:
                for other in (value - 1, value + 1):
                    self.assert_as_the_document_says(weights, table[(0, 16)], {**table, key: other})

    def test_all_small_tables(self):
        weights = [1, 0, 1]
        for worths in product((-1, 0, 1, 2, 3), repeat=6):
            table = dict(zip(THREE, worths))
            for cost in (2, 3):
                self.assert_as_the_document_says(weights, cost, table)


if __name__ == "__main__":
    unittest.main()
