"""Points 03.1 and 03.2: certificates."""

import unittest
from itertools import product

from kraftroom.certificates import is_shown, make_certificate
from kraftroom.least import cost, least_lengths
from tests import reference
from tests.test_least import LISTS_16, limits, scattered, small_weights

FIRST = (0, 0, 1)
# [5, 1, 1, 2] with the limit 3: all stages with their values, by hand.
FOUR = {(0, 0, 1): 15, (1, 0, 2): 6, (2, 0, 4): 0, (2, 1, 2): 2, (3, 0, 4): 0, (3, 1, 3): 0, (3, 2, 2): 0,
        (3, 3, 1): 0}


def changed(certificate, stage, value):
    return {**certificate, stage: value}


def without(certificate, stage):
    return {other: value for other, value in certificate.items() if other != stage}


class MakeCertificate(unittest.TestCase):
    def assert_certificate(self, weights, limit):
        found = make_certificate(weights, limit)
        self.assertIs(type(found), tuple)
        lengths, certificate = found
        self.assertEqual(lengths, least_lengths(weights, limit))
        self.assertTrue(reference.shows(weights, limit, lengths, certificate), (weights, limit))
        self.assertIs(is_shown(weights, limit, lengths, certificate), True)
        self.assertIs(type(certificate), dict)
        for stage, value in certificate.items():
            self.assertEqual([type(stage), type(value)], [tuple, int])
            depth, m, k = stage
            self.assertTrue(0 <= depth <= limit and 0 <= m < len(weights) and 1 <= k <= len(weights), stage)

    def test_example_of_the_interface(self):
        lengths, certificate = make_certificate([3, 2, 2], 4)
        self.assertEqual(lengths, [1, 2, 2])
        self.assertIs(is_shown([3, 2, 2], 4, lengths, certificate), True)
        self.assertIs(is_shown([3, 2, 2], 4, [2, 2, 2], certificate), False)

    def test_two_weights(self):
        for weights in ([3, 4], [0, 0], [0, 1000000], [7, 7]):
            for limit in (1, 2, 16):
                self.assert_certificate(weights, limit)
                self.assertEqual(make_certificate(weights, limit)[0], [1, 1])

    def test_small_lists(self):
        for weights in small_weights():
            for limit in limits(weights, 5):
                self.assert_certificate(weights, limit)
                self.assertEqual(make_certificate(weights, limit)[0], reference.chosen_lengths(weights, limit))

    def test_limit_that_is_just_large_enough(self):
        # most stages lead to no end of the code here
        for count, limit in ((2, 1), (3, 2), (4, 2), (5, 3), (7, 3), (8, 3), (9, 4), (15, 4), (16, 4)):
            for spread in (1, 3, 1000001):
                self.assert_certificate(scattered(count, spread), limit)

    def test_16_weights(self):
        for weights in LISTS_16 + [scattered(16, 1000001), scattered(16, 4)]:
            for limit in (4, 5, 6, 9, 16):
                self.assert_certificate(weights, limit)

    def test_weights_0_and_equal_ones(self):
        for weight in (0, 1, 1000000):
            for count in range(2, 17):
                for limit in (4, 16):
                    self.assert_certificate([weight] * count, limit)

    def test_each_call_makes_its_own(self):
        lengths, certificate = make_certificate([3, 2, 2], 4)
        again = make_certificate([3, 2, 2], 4)
        lengths.clear()
        certificate.clear()
        self.assertTrue(is_shown([3, 2, 2], 4, again[0], again[1]))


class IsShown(unittest.TestCase):
    def assert_as_the_document_says(self, weights, limit, lengths, certificate):
        expected = reference.shows(weights, limit, lengths, certificate)
        self.assertIs(is_shown(weights, limit, lengths, certificate), expected, (weights, limit, lengths, certificate))
        return expected

    def test_certificate_by_hand(self):
        self.assertEqual(FOUR, reference.certificate_for([5, 1, 1, 2], 3))
        self.assertIs(is_shown([5, 1, 1, 2], 3, [1, 3, 3, 2], FOUR), True)
        self.assertIs(is_shown([3, 4], 1, [1, 1], {(0, 0, 1): 7, (1, 0, 2): 0}), True)

    def test_value_raised(self):
        for stage, value in FOUR.items():
            # the value of a stage is never greater than its choices allow, and here all are as great
            self.assertIs(is_shown([5, 1, 1, 2], 3, [1, 3, 3, 2], changed(FOUR, stage, value + 1)), False, stage)

    def test_value_lowered(self):
        for stage in ((0, 0, 1), (1, 0, 2), (2, 1, 2), (3, 2, 2)):
            lowered = changed(FOUR, stage, FOUR[stage] - 1)
            self.assertIs(is_shown([5, 1, 1, 2], 3, [1, 3, 3, 2], lowered), False, stage)

    def test_value_lowered_where_it_holds_nothing_down(self):
        # the least code gives no word at these stages, and other choices stay dear enough
        for stage in ((2, 0, 4), (3, 0, 4), (3, 1, 3)):
            lowered = changed(FOUR, stage, FOUR[stage] - 1)
            self.assertIs(is_shown([5, 1, 1, 2], 3, [1, 3, 3, 2], lowered), True, stage)

    def test_all_values_lowered(self):
        lowered = {stage: value - 1 for stage, value in FOUR.items()}
        self.assertIs(is_shown([5, 1, 1, 2], 3, [1, 3, 3, 2], lowered), False)
        # even if some lengths, of no code that keeps the limit, cost just that
        self.assertIs(is_shown([5, 1, 1, 2], 3, [1, 3, 2, 2], lowered), False)

    def test_first_value_is_the_cost_of_the_lengths(self):
        dear = [2, 2, 2, 2]
        self.assertEqual(cost([5, 1, 1, 2], dear), 18)
        self.assertIs(is_shown([5, 1, 1, 2], 3, dear, FOUR), False)
        self.assertIs(is_shown([5, 1, 1, 2], 3, dear, changed(FOUR, FIRST, 18)), False)
        self.assertIs(is_shown([5, 1, 1, 2], 3, [1, 3, 3, 2], changed(FOUR, FIRST, 14)), False)

    def test_missing_stage(self):
        for stage in FOUR:
            self.assertIs(is_shown([5, 1, 1, 2], 3, [1, 3, 3, 2], without(FOUR, stage)), False, stage)
        self.assertIs(is_shown([5, 1, 1, 2], 3, [1, 3, 3, 2], {}), False)
        self.assertIs(is_shown([0, 0], 1, [1, 1], {}), False)
        self.assertIs(is_shown([0, 0], 1, [1, 1], {(1, 0, 2): 0}), False)

    def test_missing_stage_that_leads_to_no_end(self):
        certificate = reference.certificate_for([1, 1, 1, 1], 2)
        self.assertEqual(certificate[(2, 1, 2)], 10 ** 12)
        self.assertIs(is_shown([1, 1, 1, 1], 2, [2, 2, 2, 2], certificate), True)
        self.assertIs(is_shown([1, 1, 1, 1], 2, [2, 2, 2, 2], without(certificate, (2, 1, 2))), False)

    def test_stage_that_leads_to_no_end_may_have_any_value_that_is_great_enough(self):
        certificate = reference.certificate_for([1, 1, 1, 1], 2)
        # (1, 0, 2) has the value 4, and its choice 1 costs 3
        for value, expected in ((10 ** 30, True), (2, True), (1, True), (0, False), (-5, False)):
            found = is_shown([1, 1, 1, 1], 2, [2, 2, 2, 2], changed(certificate, (2, 1, 2), value))
            self.assertIs(found, expected, value)

    def test_needless_stages(self):
        lengths = [1, 3, 3, 2]
        # this one ends the code or leads to a stage that is there
        self.assertIs(is_shown([5, 1, 1, 2], 3, lengths, changed(FOUR, (2, 2, 1), 2)), True)
        self.assertIs(is_shown([5, 1, 1, 2], 3, lengths, changed(FOUR, (2, 2, 1), -9)), True)
        self.assertIs(is_shown([5, 1, 1, 2], 3, lengths, changed(FOUR, (2, 2, 1), 3)), False)
        self.assertIs(is_shown([5, 1, 1, 2], 3, lengths, changed(FOUR, (3, 1, 4), 0)), True)
        self.assertIs(is_shown([5, 1, 1, 2], 3, lengths, changed(FOUR, (3, 1, 4), 1)), False)
        # it has no choices at all
        self.assertIs(is_shown([5, 1, 1, 2], 3, lengths, changed(FOUR, (3, 0, 1), 10 ** 9)), True)
        # this one leads to (2, 1, 2) alone, at the cost 4
        self.assertIs(is_shown([5, 1, 1, 2], 3, lengths, changed(FOUR, (1, 1, 1), 6)), True)
        self.assertIs(is_shown([5, 1, 1, 2], 3, lengths, changed(FOUR, (1, 1, 1), 7)), False)
        # it leads to (2, 1, 3), which is not there
        self.assertIs(is_shown([5, 1, 1, 2], 3, lengths, changed(FOUR, (1, 1, 2), -10 ** 9)), False)
        # another stage of the depth 0
        self.assertIs(is_shown([5, 1, 1, 2], 3, lengths, changed(FOUR, (0, 0, 4), 0)), False)

    def test_each_needless_stage(self):
        for weights, limit in (([5, 1, 1, 2], 3), ([1, 1, 1, 1], 2), ([3, 0, 3], 3)):
            certificate = reference.certificate_for(weights, limit)
            lengths = reference.chosen_lengths(weights, limit)
            for stage in product(range(limit + 1), range(len(weights)), range(1, len(weights) + 1)):
                for value in (-1, 0, 1, 3, 10 ** 13):
                    if stage not in certificate:
                        self.assert_as_the_document_says(weights, limit, lengths, changed(certificate, stage, value))

    def test_all_stages_at_once(self):
        for weights, limit in (([5, 1, 1, 2], 3), ([1, 1, 1, 1], 2), ([0, 0, 0], 4)):
            every = product(range(limit + 1), range(len(weights)), range(1, len(weights) + 1))
            certificate = {stage: -1 for stage in every}
            certificate.update(reference.certificate_for(weights, limit))
            lengths = reference.chosen_lengths(weights, limit)
            self.assert_as_the_document_says(weights, limit, lengths, certificate)

    def test_each_value_changed(self):
        for weights in ([3, 1], [2, 2, 2], [0, 7, 0, 7], [1, 2, 3, 4, 5], [0, 0, 9, 4, 4, 1], [0] * 5):
            for limit in limits(weights, 4):
                certificate = reference.certificate_for(weights, limit)
                lengths = reference.chosen_lengths(weights, limit)
                self.assertTrue(self.assert_as_the_document_says(weights, limit, lengths, certificate))
                for stage, value in certificate.items():
                    self.assert_as_the_document_says(weights, limit, lengths, without(certificate, stage))
                    for other in (value - 1, value + 1, value - 100, value + 100, 0):
                        self.assert_as_the_document_says(weights, limit, lengths, changed(certificate, stage, other))

    def test_16_weights_with_a_changed_value(self):
        for weights, limit in ((LISTS_16[0], 16), (LISTS_16[1], 5), (LISTS_16[2], 4)):
            lengths, certificate = make_certificate(weights, limit)
            for stage in list(certificate)[::97] + [FIRST]:
                for value in (certificate[stage] - 1, certificate[stage] + 1):
                    self.assert_as_the_document_says(weights, limit, lengths, changed(certificate, stage, value))
                self.assertIs(is_shown(weights, limit, lengths, without(certificate, stage)), False)


class Lengths(unittest.TestCase):
    def test_all_lengths(self):
        for weights in ([3, 4], [0, 0], [3, 2, 2], [0, 0, 1], [1, 1, 1], [0, 0, 0]):
            for limit in limits(weights, 3):
                certificate = reference.certificate_for(weights, limit)
                for lengths in product(range(-1, limit + 3), repeat=len(weights)):
                    expected = reference.shows(weights, limit, list(lengths), certificate)
                    self.assertIs(is_shown(weights, limit, list(lengths), certificate), expected, (weights, lengths))

    def test_each_least_code(self):
        # the certificate does not depend on which code of the least cost is shown
        certificate = make_certificate([2, 1, 1, 1], 3)[1]
        for lengths in ([2, 2, 2, 2], [1, 2, 3, 3], [1, 3, 2, 3], [1, 3, 3, 2]):
            self.assertIs(is_shown([2, 1, 1, 1], 3, lengths, certificate), True)
        self.assertIs(is_shown([2, 1, 1, 1], 3, [3, 1, 2, 3], certificate), False)

    def test_code_with_room_left(self):
        # words may be longer than needed where they cost nothing
        certificate = make_certificate([0, 5, 0], 4)[1]
        self.assertIs(is_shown([0, 5, 0], 4, [4, 1, 3], certificate), True)
        self.assertIs(is_shown([0, 5, 0], 4, [4, 2, 3], certificate), False)

    def test_lengths_of_another_number(self):
        certificate = make_certificate([3, 2, 2], 4)[1]
        for lengths in ([], [1], [1, 2], [1, 2, 2, 0], [1, 2, 2, 3], [1, 2, 2, 4]):
            self.assertIs(is_shown([3, 2, 2], 4, lengths, certificate), False, lengths)
        certificate = make_certificate([3, 2, 0], 4)[1]
        # these would have the cost that is shown
        for lengths in ([1, 2], [1, 2, 3, 4], [1, 2, 3, 0]):
            self.assertIs(is_shown([3, 2, 0], 4, lengths, certificate), False, lengths)

    def test_lengths_that_are_no_code(self):
        certificate = make_certificate([0, 0, 0], 2)[1]
        self.assertEqual(certificate[FIRST], 0)
        for lengths in ([1, 1, 1], [1, 1, 2], [0, 0, 0], [0, 1, 1], [-1, 1, 1], [2, 2, -2], [1, 2, 3], [2, 3, 2]):
            self.assertIs(is_shown([0, 0, 0], 2, lengths, certificate), False, lengths)
        for lengths in ([1, 2, 2], [2, 2, 2], [2, 1, 2], [2, 2, 1]):
            self.assertIs(is_shown([0, 0, 0], 2, lengths, certificate), True, lengths)

    def test_lengths_beyond_the_limit(self):
        certificate = make_certificate([5, 1, 1, 2], 2)[1]
        self.assertIs(is_shown([5, 1, 1, 2], 2, [1, 3, 3, 2], certificate), False)
        certificate = make_certificate([0, 0], 16)[1]
        self.assertIs(is_shown([0, 0], 16, [1, 16], certificate), True)
        self.assertIs(is_shown([0, 0], 16, [1, 17], certificate), False)
        # no number as long as such a word is made
        for length in (21, 10 ** 15, -10 ** 15, 10 ** 40):
            self.assertIs(is_shown([0, 0], 16, [1, length], certificate), False)


class WhatIsShown(unittest.TestCase):
    def test_no_certificate_shows_what_is_not_so(self):
        # all certificates of some values for all stages, whoever would make them
        for weights, limit in (([3, 4], 1), ([1, 0], 2), ([1, 1], 2)):
            least = reference.least_cost(weights, limit)
            stages = sorted(reference.stages_from(weights, limit, FIRST))
            shown = 0
            for worths in product([-1, 0, 1, 2, 7], repeat=len(stages)):
                certificate = dict(zip(stages, worths))
                for lengths in product(range(limit + 2), repeat=len(weights)):
                    found = is_shown(weights, limit, list(lengths), certificate)
                    self.assertIs(found, reference.shows(weights, limit, list(lengths), certificate))
                    if found:
                        shown += 1
                        self.assertEqual(cost(weights, lengths), least)
            self.assertGreater(shown, 0)

    def test_what_is_made_shows_the_least_cost(self):
        for weights in small_weights():
            if len(weights) < 5:
                for limit in limits(weights, 4):
                    lengths, certificate = make_certificate(weights, limit)
                    self.assertEqual(certificate[FIRST], reference.least_cost(weights, limit))
                    self.assertEqual(cost(weights, lengths), reference.least_cost(weights, limit))


if __name__ == "__main__":
    unittest.main()
