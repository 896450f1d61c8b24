"""Points 02.1 to 02.5: codes of least cost."""

import unittest
from itertools import product

from kraftroom.least import choices, cost, least_lengths, packaged_lengths, ranks, values
from tests import reference

FIRST = (0, 0, 1)
FIBONACCI_16 = [1, 1, 2, 3, 5, 8, 13, 21, 34, 55, 89, 144, 233, 377, 610, 987]
MIXED_16 = [0, 7, 1000000, 7, 0, 31, 31, 5, 999999, 0, 1, 2, 7, 64, 500000, 7]
LISTS_16 = [FIBONACCI_16, MIXED_16, [0] * 16, [1000000] * 16, list(range(16)), [1 << at for at in range(16)]]


def scattered(count, spread):
    """Weights without an evident order, the same ones in every run."""
    found = []
    number = 12345
    for _ in range(count):
        number = (number * 1103515245 + 12345) % (1 << 31)
        found.append((number >> 8) % spread)
    return found


def small_weights():
    """Lists of 2 to 4 weights with all ties and zeros, and some of 5 and 6 weights."""
    for count in (2, 3, 4):
        for weights in product(range(4), repeat=count):
            yield list(weights)
    for spread in (1, 2, 3, 10, 1000001):
        yield scattered(5, spread)
        yield scattered(6, spread)


def limits(weights, greatest):
    """All limits from the least one that is large enough."""
    return [limit for limit in range(1, greatest + 1) if 1 << limit >= len(weights)]


def keeps(lengths, limit):
    return min(lengths) >= 1 and max(lengths) <= limit and reference.share(lengths) <= 1


class Ranks(unittest.TestCase):
    def test_descending_weight(self):
        self.assertEqual(ranks([1, 5, 3]), [1, 2, 0])
        self.assertEqual(ranks([1000000, 0]), [0, 1])

    def test_equal_weights_by_ascending_number(self):
        self.assertEqual(ranks([2, 2, 2, 2]), [0, 1, 2, 3])
        self.assertEqual(ranks([5, 1, 1, 2, 5]), [0, 4, 3, 1, 2])

    def test_weights_0(self):
        self.assertEqual(ranks([0, 0, 1, 0]), [2, 0, 1, 3])
        self.assertEqual(ranks([0] * 16), list(range(16)))

    def test_16_weights(self):
        self.assertEqual(ranks(FIBONACCI_16), list(range(15, 1, -1)) + [0, 1])
        self.assertEqual(ranks(MIXED_16), [2, 8, 14, 13, 5, 6, 1, 3, 12, 15, 7, 11, 10, 0, 4, 9])


class Cost(unittest.TestCase):
    def test_examples_of_the_interface(self):
        self.assertEqual(cost([5, 1, 1, 2], [1, 3, 3, 2]), 15)

    def test_sum_of_the_products(self):
        self.assertEqual(cost([3, 4], [1, 1]), 7)
        self.assertEqual(cost([0, 0, 9], [2, 2, 1]), 9)
        self.assertEqual(cost([0, 0], [1, 1]), 0)
        self.assertEqual(cost([2, 3, 5], [7, 11, 13]), 112)
        self.assertEqual(cost([1000000] * 16, [16] * 16), 256000000)


class Choices(unittest.TestCase):
    def test_example_of_the_interface(self):
        self.assertEqual(choices([5, 1, 1, 2], 3, (1, 0, 2)), [(0, 9, (2, 0, 4)), (1, 4, (2, 1, 2))])

    def test_kinds_of_values(self):
        found = choices([5, 1, 1, 2], 3, (2, 1, 3))
        self.assertIs(type(found), list)
        self.assertEqual([type(choice) for choice in found], [tuple] * 4)
        self.assertIs(type(found[0][2]), tuple)

    def test_depth_0(self):
        self.assertEqual(choices([5, 1, 1, 2], 3, FIRST), [(0, 9, (1, 0, 2))])
        self.assertEqual(choices([3, 4], 1, FIRST), [(0, 7, (1, 0, 2))])
        # more than one node would be free, and still no word has 0 bits
        self.assertEqual(choices([5, 1, 1, 2], 3, (0, 1, 2)), [(0, 4, (1, 1, 3))])

    def test_depth_between(self):
        self.assertEqual(choices([9, 5, 3, 2, 1], 4, (2, 1, 2)), [(0, 11, (3, 1, 4)), (1, 6, (3, 2, 2))])
        self.assertEqual(choices([9, 5, 3, 2, 1], 4, (2, 0, 4)), [
            (0, 20, (3, 0, 5)), (1, 11, (3, 1, 4)), (2, 6, (3, 2, 3)), (3, 3, (3, 3, 2))])

    def test_next_stage_has_no_more_nodes_than_ranks_left(self):
        self.assertEqual(choices([4, 3, 2], 5, (1, 0, 3)), [
            (0, 9, (2, 0, 3)), (1, 5, (2, 1, 2)), (2, 2, (2, 2, 1)), (3, 0, None)])

    def test_a_that_is_k_is_no_choice_unless_it_ends_the_code(self):
        self.assertEqual([a for a, _, _ in choices([4, 3, 2], 5, (1, 0, 2))], [0, 1])
        self.assertEqual([a for a, _, _ in choices([4, 3, 2], 5, (1, 2, 1))], [0, 1])
        self.assertEqual(choices([4, 3, 2], 5, (1, 1, 1)), [(0, 5, (2, 1, 2))])
        self.assertEqual(choices([4, 3, 2], 5, (2, 1, 2)), [(0, 5, (3, 1, 2)), (1, 2, (3, 2, 1)), (2, 0, None)])

    def test_end_of_the_code(self):
        self.assertEqual(choices([4, 3], 5, (1, 1, 1)), [(0, 3, (2, 1, 1)), (1, 0, None)])
        self.assertEqual(choices([4, 3, 2], 5, (2, 2, 3)), [(0, 2, (3, 2, 1)), (1, 0, None)])

    def test_depth_of_the_limit(self):
        self.assertEqual(choices([4, 3, 2], 2, (2, 1, 2)), [(2, 0, None)])
        self.assertEqual(choices([4, 3, 2], 2, (2, 1, 3)), [(2, 0, None)])
        self.assertEqual(choices([4, 3, 2], 2, (2, 0, 3)), [(3, 0, None)])
        self.assertEqual(choices([1] * 16, 16, (16, 14, 2)), [(2, 0, None)])

    def test_depth_of_the_limit_with_too_few_nodes(self):
        self.assertEqual(choices([4, 3, 2], 2, (2, 1, 1)), [])
        self.assertEqual(choices([4, 3, 2], 2, (2, 0, 2)), [])
        self.assertEqual(choices([1] * 16, 16, (16, 0, 15)), [])

    def test_weights_0(self):
        self.assertEqual(choices([0, 0, 5, 0], 3, (1, 0, 2)), [(0, 5, (2, 0, 4)), (1, 0, (2, 1, 2))])
        self.assertEqual(choices([0, 0, 0], 3, (1, 0, 2)), [(0, 0, (2, 0, 3)), (1, 0, (2, 1, 2))])

    def test_all_stages(self):
        for weights in ([3, 1], [2, 2, 2], [0, 7, 0, 7], [1, 2, 3, 4, 5], [0, 0, 9, 4, 4, 1]):
            count = len(weights)
            for limit in limits(weights, 5):
                for depth, m, k in product(range(limit + 1), range(count), range(1, count + 1)):
                    expected = reference.stage_choices(weights, limit, (depth, m, k))
                    self.assertEqual(choices(weights, limit, (depth, m, k)), expected)

    def test_16_weights(self):
        for weights in LISTS_16:
            for stage in ((0, 0, 1), (1, 0, 2), (5, 3, 13), (8, 0, 16), (15, 14, 2), (16, 15, 1), (4, 7, 9)):
                expected = reference.stage_choices(weights, 16, stage)
                self.assertEqual(choices(weights, 16, stage), expected)


class Values(unittest.TestCase):
    def test_two_weights(self):
        self.assertEqual(values([3, 4], 1), {(0, 0, 1): 7, (1, 0, 2): 0})

    def test_two_weights_with_a_greater_limit(self):
        self.assertEqual(values([3, 4], 2), {
            (0, 0, 1): 7, (1, 0, 2): 0, (2, 0, 2): 0, (2, 1, 1): 0})

    def test_none_where_no_choices_lead_to_an_end(self):
        self.assertEqual(values([1, 1, 1, 1], 2), {
            (0, 0, 1): 8, (1, 0, 2): 4, (2, 0, 4): 0, (2, 1, 2): None})
        self.assertEqual(values([1, 1, 1, 1, 1], 3), {
            (0, 0, 1): 12, (1, 0, 2): 7, (2, 0, 4): 2, (2, 1, 2): 4,
            (3, 0, 5): 0, (3, 1, 4): 0, (3, 2, 3): 0, (3, 3, 2): 0, (3, 2, 2): None})

    def test_keys_and_values(self):
        for weights in small_weights():
            for limit in limits(weights, 4):
                found = values(weights, limit)
                self.assertEqual(set(found), reference.stages_from(weights, limit, FIRST))
                if len(weights) < 4 or max(weights) < 2:
                    for stage in found:
                        sums = [total for total, _ in reference.paths(weights, limit, stage)]
                        self.assertEqual(found[stage], min(sums, default=None), (weights, limit, stage))

    def test_16_weights_with_the_limit_16(self):
        for weights in LISTS_16:
            found = values(weights, 16)
            self.assertEqual(set(found), reference.stages_from(weights, 16, FIRST))
            for stage in found:
                sums = []
                for _, price, following in reference.stage_choices(weights, 16, stage):
                    if following is None:
                        sums.append(price)
                    elif found[following] is not None:
                        sums.append(price + found[following])
                self.assertEqual(found[stage], min(sums, default=None))


class LeastLengths(unittest.TestCase):
    def test_examples_of_the_interface(self):
        self.assertEqual(least_lengths([5, 1, 1, 2], 3), [1, 3, 3, 2])
        self.assertEqual(least_lengths([5, 1, 1, 2], 2), [2, 2, 2, 2])

    def test_greatest_choice_among_equal_ones(self):
        # both [2, 2, 2, 2] and [1, 2, 3, 3] cost 10 for these
        self.assertEqual(least_lengths([2, 1, 1, 1], 3), [1, 2, 3, 3])
        self.assertEqual(least_lengths([1, 1, 1, 2], 3), [2, 3, 3, 1])
        self.assertEqual(least_lengths([1, 1, 1, 1], 3), [2, 2, 2, 2])
        self.assertEqual(least_lengths([0, 0, 0, 0], 3), [1, 2, 3, 3])

    def test_words_go_to_the_ranks_in_order(self):
        self.assertEqual(least_lengths([1, 1, 1], 2), [1, 2, 2])
        self.assertEqual(least_lengths([1, 2, 2], 2), [2, 1, 2])
        self.assertEqual(least_lengths([0, 0, 3, 0], 3), [2, 3, 1, 3])

    def test_small_lists(self):
        for weights in small_weights():
            for limit in limits(weights, 5):
                expected = reference.chosen_lengths(weights, limit)
                self.assertEqual(least_lengths(weights, limit), expected, (weights, limit))

    def test_equal_weights(self):
        for weight in (1, 7, 1000000):
            self.assertEqual(least_lengths([weight] * 16, 4), [4] * 16)
            self.assertEqual(least_lengths([weight] * 16, 16), [4] * 16)
            self.assertEqual(least_lengths([weight] * 6, 16), [2, 2, 3, 3, 3, 3])

    def test_limit_just_large_enough(self):
        for weights in LISTS_16:
            self.assertEqual(least_lengths(weights, 4), [4] * 16)
        self.assertEqual(least_lengths([9, 8, 7, 6, 5, 4, 3, 2, 1], 4)[:2], [2, 3])

    def test_16_weights_with_the_limit_16(self):
        self.assertEqual(least_lengths([0] * 16, 16), list(range(1, 16)) + [15])
        self.assertEqual(least_lengths([1 << at for at in range(16)], 16), [15] + list(range(15, 0, -1)))
        # 1 and 1 make 2, as much as the next weight, so that there are ties; the greater choice comes first
        self.assertEqual(least_lengths(FIBONACCI_16, 16), [15] + list(range(15, 0, -1)))

    def test_16_weights_with_each_limit(self):
        for weights in LISTS_16 + [scattered(16, spread) for spread in (2, 3, 5, 1000001)]:
            for limit in range(4, 17):
                found = least_lengths(weights, limit)
                self.assertTrue(keeps(found, limit))
                self.assertEqual(found, reference.chosen_lengths_of_many(weights, limit), (weights, limit))


class LeastCost(unittest.TestCase):
    def test_value_of_the_first_stage_is_the_least_cost_of_all_codes(self):
        for weights in small_weights():
            if len(weights) < 6:
                for limit in limits(weights, 4):
                    least = reference.least_cost(weights, limit)
                    found = least_lengths(weights, limit)
                    self.assertTrue(keeps(found, limit))
                    self.assertEqual(cost(weights, found), least)
                    self.assertEqual(values(weights, limit)[FIRST], least)

    def test_16_weights(self):
        for weights in LISTS_16 + [scattered(16, 1000001), scattered(16, 4)]:
            for limit in range(4, 17):
                least = reference.least_cost_of_many(weights, limit)
                self.assertEqual(values(weights, limit)[FIRST], least)
                self.assertEqual(cost(weights, least_lengths(weights, limit)), least)


class PackagedLengths(unittest.TestCase):
    def assert_least(self, weights, limit, least):
        found = packaged_lengths(weights, limit)
        self.assertIs(type(found), list)
        self.assertEqual(len(found), len(weights))
        self.assertTrue(keeps(found, limit), (weights, limit, found))
        self.assertEqual(reference.cost_of(weights, found), least, (weights, limit, found))

    def test_small_lists(self):
        for weights in small_weights():
            for limit in limits(weights, 6):
                self.assert_least(weights, limit, values(weights, limit)[FIRST])

    def test_2_to_16_weights(self):
        for count in range(2, 17):
            for spread in (1, 2, 5, 100, 1000001):
                weights = scattered(count, spread)
                for limit in limits(weights, 16):
                    self.assert_least(weights, limit, cost(weights, least_lengths(weights, limit)))

    def test_16_weights(self):
        for weights in LISTS_16:
            for limit in range(4, 21):
                self.assert_least(weights, limit, reference.least_cost_of_many(weights, limit))

    def test_17_to_64_weights(self):
        for count in (17, 31, 32, 33, 50):
            for limit in (6, 9, 20):
                weights = scattered(count, 1000001)
                self.assert_least(weights, limit, reference.least_cost_of_many(weights, limit))

    def test_64_weights(self):
        growing = [min(1000000, 1 << at) for at in range(64)]
        for weights in (scattered(64, 1000001), growing, scattered(32, 3) + [0] * 10 + scattered(22, 1000)):
            for limit in (6, 7, 12, 20):
                self.assert_least(weights, limit, reference.least_cost_of_many(weights, limit))

    def test_64_equal_weights(self):
        for weight in (0, 1, 1000000):
            for limit in (6, 20):
                self.assert_least([weight] * 64, limit, 6 * 64 * weight)

    def test_limit_that_binds(self):
        # without a limit these would need words of up to 29 bits
        weights = [1, 1]
        while len(weights) < 30:
            weights.append(weights[-1] + weights[-2])
        self.assert_least(weights, 20, reference.least_cost_of_many(weights, 20))


if __name__ == "__main__":
    unittest.main()
