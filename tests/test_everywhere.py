"""Point 00.1 and the introduction of the interface: what holds for all modules."""

import ast
import copy
import inspect
import unittest
from pathlib import Path

from kraftroom import (alphabetic, archives, blocks, certificates, errors, integers, intervals, least, models, numbers,
                       prefix)
from kraftroom.models import Context, Counts, Learner
from tests import reference, reference_bits

PACKAGE = Path(__file__).resolve().parent.parent / "kraftroom"
INTERFACE = {
    prefix: {
        "room": ["lengths"],
        "is_code": ["lengths"],
        "words": ["lengths"],
        "write_symbols": ["lengths", "message"],
        "read_symbols": ["lengths", "bits", "at", "count"],
    },
    least: {
        "ranks": ["weights"],
        "cost": ["weights", "lengths"],
        "choices": ["weights", "limit", "stage"],
        "values": ["weights", "limit"],
        "least_lengths": ["weights", "limit"],
        "packaged_lengths": ["weights", "limit"],
    },
    certificates: {
        "make_certificate": ["weights", "limit"],
        "is_shown": ["weights", "limit", "lengths", "certificate"],
    },
    alphabetic: {
        "range_values": ["weights"],
        "alphabetic_words": ["weights"],
        "shows_least": ["weights", "cost", "table"],
    },
    intervals: {
        "interval": ["model", "message"],
        "least_exponent": ["width", "whole"],
        "encode_message": ["model", "message"],
        "decode_message": ["model", "bits", "count"],
    },
    numbers: {
        "push": ["low", "weight", "total", "number"],
        "pop": ["model", "number"],
        "pack": ["model", "message", "number"],
        "unpack": ["model", "number", "count"],
        "pack_words": ["model", "message"],
        "unpack_words": ["model", "state", "words", "count"],
    },
    integers: {
        "gamma_bits": ["n"],
        "delta_bits": ["n"],
        "rice_bits": ["k", "n"],
        "fibonacci_bits": ["n"],
        "read_gamma": ["bits", "at"],
        "read_delta": ["bits", "at"],
        "read_rice": ["k", "bits", "at"],
        "read_fibonacci": ["bits", "at"],
    },
    blocks: {
        "block_lengths": ["counts"],
        "body": ["size", "block", "form"],
        "write_block": ["size", "block"],
        "read_block": ["size", "bits", "at"],
    },
    archives: {
        "write_archive": ["size", "chunk", "message"],
        "open_archive": ["bits"],
        "read_archive": ["size", "bits"],
        "read_symbol": ["size", "bits", "index"],
    },
}
CLASSES = {
    errors: {
        "KraftroomError": ["place"],
        "Truncated": ["place"],
        "InvalidWord": ["place"],
        "Undecided": ["place"],
        "InvalidBlock": ["place"],
    },
    models: {
        "Counts": ["weights"],
        "Learner": ["size", "step", "limit"],
        "Context": ["size", "step", "limit"],
    },
}
FOUR = {(0, 0, 1): 15, (1, 0, 2): 6, (2, 0, 4): 0, (2, 1, 2): 2, (3, 0, 4): 0, (3, 1, 3): 0, (3, 2, 2): 0,
        (3, 3, 1): 0}
THREE = {(0, 1): 0, (1, 2): 0, (2, 3): 0, (0, 2): 6, (1, 3): 6, (0, 3): 13}
BLOCK = [0, 1, 2, 0, 2, 2]
ARCHIVE = archives.write_archive(3, 4, BLOCK)


def learned(model):
    """The model after it learned some symbols."""
    for symbol in (2, 2, 1, 0, 1):
        model.learn(symbol)
    return model


CALLS = [
    (prefix.room, [[2, 0, 1, 3]]),
    (prefix.is_code, [[2, 0, 1, 3]]),
    (prefix.is_code, [[3, 1, 1, 1]]),
    (prefix.words, [[2, 0, 1, 3]]),
    (prefix.words, [[20, 6, 1, 0, 6]]),
    (prefix.write_symbols, [[2, 0, 1, 3], [3, 0, 2, 2]]),
    (prefix.read_symbols, [[2, 0, 1, 3], [1, 1, 0, 1, 0], 0, 2]),
    (least.ranks, [[5, 1, 1, 2, 9, 0]]),
    (least.cost, [[5, 1, 1, 2], [3, 1, 3, 2]]),
    (least.choices, [[1, 5, 1, 2], 3, (1, 0, 2)]),
    (least.values, [[1, 5, 0, 2], 3]),
    (least.least_lengths, [[1, 5, 0, 2], 3]),
    (least.packaged_lengths, [[1, 5, 0, 2], 3]),
    (least.packaged_lengths, [[7, 3, 9, 0, 3] * 12, 20]),
    (certificates.make_certificate, [[1, 5, 0, 2], 3]),
    (certificates.make_certificate, [[1, 5, 0, 2], 2]),
    (certificates.is_shown, [[5, 1, 1, 2], 3, [1, 3, 3, 2], FOUR]),
    (certificates.is_shown, [[5, 1, 1, 2], 3, [1, 3, 3, 2], {**FOUR, (3, 2, 2): 1}]),
    (certificates.is_shown, [[5, 1, 1, 2], 3, [1, 3, 3, 2], {(0, 0, 1): 15, (1, 0, 2): 6}]),
    (certificates.is_shown, [[5, 1, 1, 2], 3, [3, 1, 2], FOUR]),
    (alphabetic.range_values, [[1, 5, 0, 2]]),
    (alphabetic.alphabetic_words, [[1, 5, 0, 2]]),
    (alphabetic.shows_least, [[1, 5, 1], 13, THREE]),
    (alphabetic.shows_least, [[1, 5, 1], 13, {**THREE, (0, 2): 7}]),
    (models.Counts, [[1, 0, 5]]),
    (models.Learner, [3, 4, 8]),
    (models.Context, [3, 4, 8]),
    (intervals.interval, [Counts([1, 0, 3]), [2, 0, 2]]),
    (intervals.interval, [learned(Learner(3, 4, 8)), [2, 0, 1]]),
    (intervals.interval, [learned(Context(3, 4, 8)), [2, 0, 1]]),
    (intervals.least_exponent, [9, 16]),
    (intervals.encode_message, [Counts([1, 0, 3]), [2, 0, 2]]),
    (intervals.encode_message, [learned(Learner(3, 4, 8)), [2, 0, 1]]),
    (intervals.encode_message, [learned(Context(3, 4, 8)), [2, 0, 1]]),
    (intervals.decode_message, [Counts([1, 0, 3]), [1, 0, 1, 0, 1, 1], 2]),
    (intervals.decode_message, [learned(Learner(3, 4, 8)), [1, 0, 1, 0, 1, 1, 1, 1, 0], 2]),
    (intervals.decode_message, [learned(Context(3, 4, 8)), [1, 0, 1, 0, 1, 1, 1, 1, 0], 2]),
    (numbers.push, [1, 3, 4, 27]),
    (numbers.pop, [Counts([1, 0, 3]), 27]),
    (numbers.pop, [learned(Learner(3, 4, 8)), 27]),
    (numbers.pop, [learned(Context(3, 4, 8)), 27]),
    (numbers.pack, [Counts([1, 0, 3]), [2, 0, 2], 5]),
    (numbers.pack, [learned(Learner(3, 4, 8)), [2, 0, 1], 5]),
    (numbers.pack, [learned(Context(3, 4, 8)), [2, 0, 1], 5]),
    (numbers.unpack, [Counts([1, 0, 3]), 12345, 4]),
    (numbers.unpack, [learned(Learner(3, 4, 8)), 12345, 4]),
    (numbers.unpack, [learned(Context(3, 4, 8)), 12345, 4]),
    (numbers.pack_words, [Counts([1, 0, 3]), [2, 0, 2] * 9]),
    (numbers.unpack_words, [Counts([1, 0, 3]), 65536, [9, 200, 0, 255], 9]),
    (integers.gamma_bits, [27]),
    (integers.delta_bits, [27]),
    (integers.rice_bits, [3, 27]),
    (integers.fibonacci_bits, [27]),
    (integers.read_gamma, [[1, 0, 0, 1, 0, 1, 1], 1]),
    (integers.read_delta, [[1, 0, 1, 1, 0, 1, 1], 1]),
    (integers.read_rice, [2, [1, 0, 0, 1, 0, 1, 1], 3]),
    (integers.read_fibonacci, [[1, 0, 0, 1, 0, 1, 1], 1]),
    (blocks.block_lengths, [[5, 0, 1, 2]]),
    (blocks.block_lengths, [[0, 0, 3]]),
    (blocks.write_block, [3, []]),
    (blocks.write_block, [3, BLOCK]),
    (archives.write_archive, [3, 4, BLOCK]),
    (archives.write_archive, [3, 4, []]),
    (archives.open_archive, [ARCHIVE]),
    (archives.read_archive, [3, ARCHIVE]),
    (archives.read_symbol, [3, ARCHIVE, 5]),
    (archives.read_symbol, [3, ARCHIVE, 6]),
    *((blocks.body, [3, BLOCK, form]) for form in range(4)),
    *((blocks.read_block, [3, [1, 0] + reference_bits.block_in(3, BLOCK, form) + [1], 2]) for form in range(4)),
]
# Calls that raise an error of the program.
FAILING = [
    (prefix.read_symbols, [[2, 0, 1, 3], [1, 1, 1], 0, 2]),
    (prefix.read_symbols, [[2, 0, 1, 3], [1, 1], 0, 2]),
    (intervals.decode_message, [Counts([1, 0, 3]), [1, 1, 0], 9]),
    (intervals.decode_message, [learned(Learner(3, 4, 8)), [1, 1, 0], 9]),
    (intervals.decode_message, [learned(Context(3, 4, 8)), [1, 1, 0], 9]),
    (numbers.unpack_words, [Counts([1, 0, 3]), 65536, [9, 200], 99]),
    (integers.read_gamma, [[0] * 50, 0]),
    (integers.read_delta, [[0] * 9, 0]),
    (integers.read_rice, [3, [1] * 9, 0]),
    (integers.read_fibonacci, [[1, 0] * 9, 0]),
    (archives.open_archive, [ARCHIVE[:-1]]),
    (archives.read_archive, [2, ARCHIVE]),
    (archives.read_symbol, [2, ARCHIVE, 4]),
    *((blocks.read_block, [3, reference_bits.block_in(3, BLOCK, form)[:-1], 0]) for form in range(4)),
]


def plain(worth):
    """A value with its models replaced by what they hold, so that it can be compared."""
    if isinstance(worth, (list, tuple)):
        return [isinstance(worth, tuple)] + [plain(part) for part in worth]
    if isinstance(worth, (Counts, Learner, Context)):
        return [worth.__class__.__name__, {name: plain(part) for name, part in vars(worth).items()}]
    return worth


def module_trees():
    return [(path.name, ast.parse(path.read_text())) for path in sorted(PACKAGE.glob("*.py"))]


class Interface(unittest.TestCase):
    def test_functions_stand_where_they_are_listed(self):
        for module, functions in INTERFACE.items():
            for name, parameters in functions.items():
                with self.subTest(module=module.__name__, name=name):
                    function = getattr(module, name)
                    self.assertEqual(function.__module__, module.__name__)
                    self.assertEqual(list(inspect.signature(function).parameters), parameters)

    def test_classes_stand_where_they_are_listed(self):
        for module, classes in CLASSES.items():
            for name, parameters in classes.items():
                with self.subTest(module=module.__name__, name=name):
                    found = getattr(module, name)
                    self.assertEqual(found.__module__, module.__name__)
                    self.assertEqual(list(inspect.signature(found).parameters), parameters)

    def test_each_function_and_class_is_called(self):
        listed = {(module.__name__, name) for module, functions in INTERFACE.items() for name in functions}
        listed |= {(models.__name__, name) for name in CLASSES[models]}
        self.assertEqual({(function.__module__, function.__name__) for function, _ in CALLS}, listed)

    def test_arguments_by_name(self):
        for function, arguments in CALLS:
            module = inspect.getmodule(function)
            parameters = {**INTERFACE, **CLASSES}[module][function.__name__]
            self.assertEqual(plain(function(**dict(zip(parameters, arguments)))), plain(function(*arguments)))


class Arguments(unittest.TestCase):
    def test_no_argument_is_modified(self):
        for function, arguments in CALLS:
            with self.subTest(function=function.__name__):
                passed = copy.deepcopy(arguments)
                function(*passed)
                self.assertEqual(plain(passed), plain(arguments))

    def test_no_argument_is_modified_when_reading_fails(self):
        for function, arguments in FAILING:
            with self.subTest(function=function.__name__):
                passed = copy.deepcopy(arguments)
                with self.assertRaises(errors.KraftroomError) as caught:
                    function(*passed)
                self.assertEqual(plain(passed), plain(arguments))
                self.assertEqual(caught.exception.name, type(caught.exception).__name__)
                self.assertIs(type(caught.exception.place), int)

    def test_models_change_no_argument_when_they_learn(self):
        weights = [1, 0, 5]
        learned(Counts(weights))
        self.assertEqual(weights, [1, 0, 5])

    def test_only_learning_changes_a_model(self):
        for model in (Counts([1, 0, 3]), learned(Learner(3, 4, 8)), learned(Context(3, 4, 8))):
            kept = plain(copy.deepcopy(model))
            for number in range(model.total()):
                model.symbol_at(number)
            for symbol in range(model.size()):
                model.low(symbol)
                model.weight(symbol)
            learned(model.fresh())
            self.assertEqual(plain(model), kept)

    def test_the_same_call_gives_the_same_again(self):
        first = [function(*copy.deepcopy(arguments)) for function, arguments in CALLS]
        kept = copy.deepcopy(first)
        again = [function(*copy.deepcopy(arguments)) for function, arguments in CALLS[::-1]]
        self.assertEqual(plain(again[::-1]), plain(kept))
        self.assertEqual(plain(first), plain(kept))

    def test_what_is_returned_is_not_an_argument(self):
        for function, arguments in CALLS:
            with self.subTest(function=function.__name__):
                passed = copy.deepcopy(arguments)
                found = function(*passed)
                for part in found if isinstance(found, tuple) else [found]:
                    if isinstance(part, (list, dict)):
                        part.clear()
                self.assertEqual(plain(passed), plain(arguments))


class NothingFromOutside(unittest.TestCase):
    def test_modules_import_the_package_only(self):
        for name, tree in module_trees():
            for node in ast.walk(tree):
                with self.subTest(name=name):
                    self.assertNotIsInstance(node, ast.Import)
                    if isinstance(node, ast.ImportFrom):
                        self.assertEqual([node.level, node.module.split(".")[0]], [0, "kraftroom"])

    def test_modules_use_no_files(self):
        for name, tree in module_trees():
            used = {node.id for node in ast.walk(tree) if isinstance(node, ast.Name)}
            self.assertEqual(used & {"open", "input", "print", "exec", "eval", "hash", "id", "__import__"}, set(), name)


class BeyondLimits(unittest.TestCase):
    """The interface: callers may go somewhat beyond a limit, and no error is raised for it."""

    def test_lengths_beyond_20(self):
        self.assertIs(prefix.is_code([1, 2, 22]), True)
        self.assertIs(prefix.is_code([1, 1, 22]), False)
        self.assertIs(prefix.is_code([21]), True)
        self.assertEqual(prefix.room([1, 1, 21]), -1)
        self.assertEqual(prefix.room([21, 21]), (1 << 20) - 1)
        self.assertEqual(prefix.words([1, 22]), [[0], [1] + [0] * 21])
        bits = prefix.write_symbols([1, 22], [1, 0, 1])
        self.assertEqual(prefix.read_symbols([1, 22], bits, 0, 3), ([1, 0, 1], 45))

    def test_lengths_below_0(self):
        self.assertIs(prefix.is_code([-1, 2]), False)
        self.assertEqual(prefix.words([-1, 2]), [None, [0, 0]])

    def test_alphabets_beyond_64(self):
        lengths = [7] * 80
        self.assertIs(prefix.is_code(lengths), True)
        message = list(range(80))
        bits = prefix.write_symbols(lengths, message)
        self.assertEqual(prefix.read_symbols(lengths, bits, 0, 80), (message, 560))

    def test_a_place_behind_the_end(self):
        self.assertEqual(prefix.read_symbols([1, 1], [0, 1], 3, 0), ([], 3))
        with self.assertRaises(errors.Truncated) as caught:
            prefix.read_symbols([1, 1], [0, 1], 3, 1)
        self.assertEqual(caught.exception.place, 2)

    def test_weights_and_limits_beyond(self):
        weights = [2000000 + 7 * at for at in range(20)]
        least_cost = reference.least_cost_of_many(weights, 18)
        self.assertEqual(least.ranks(weights), list(range(19, -1, -1)))
        self.assertEqual(least.values(weights, 18)[(0, 0, 1)], least_cost)
        self.assertEqual(least.cost(weights, least.least_lengths(weights, 18)), least_cost)
        many = [3] * 70
        self.assertEqual(least.cost(many, least.packaged_lengths(many, 22)), reference.least_cost_of_many(many, 22))

    def test_one_weight(self):
        for limit in (1, 3):
            self.assertEqual(least.least_lengths([5], limit), [1])
            self.assertEqual(least.packaged_lengths([5], limit), [1])

    def test_certificates_beyond(self):
        for weights, limit in (([5], 1), ([5], 4), ([2000000 + 7 * at for at in range(20)], 18), ([3] * 20, 5)):
            lengths, certificate = certificates.make_certificate(weights, limit)
            self.assertEqual(lengths, least.least_lengths(weights, limit))
            self.assertIs(certificates.is_shown(weights, limit, lengths, certificate), True)
            for value in (certificate[(0, 0, 1)] - 1, certificate[(0, 0, 1)] + 1):
                wrong = {**certificate, (0, 0, 1): value}
                self.assertIs(certificates.is_shown(weights, limit, lengths, wrong), False)
        certificate = certificates.make_certificate([0, 0], 22)[1]
        self.assertIs(certificates.is_shown([0, 0], 22, [1, 22], certificate), True)
        self.assertIs(certificates.is_shown([0, 0], 22, [1, 23], certificate), False)

    def test_certificate_with_a_limit_that_is_too_small(self):
        lengths, certificate = certificates.make_certificate([1, 1, 1], 1)
        self.assertIsNone(lengths)
        for wrong in ([1, 1, 1], [1, 2, 2], [1, 1, 0]):
            self.assertIs(certificates.is_shown([1, 1, 1], 1, wrong, certificate), False)

    def test_alphabetic_codes_beyond(self):
        weights = [2000000 + 7 * at for at in range(20)]
        table = alphabetic.range_values(weights)
        least_cost = reference.least_alphabetic_cost(weights)
        self.assertEqual(table[(0, 20)], least_cost)
        self.assertIs(alphabetic.shows_least(weights, least_cost, table), True)
        found = [len(word) for word in alphabetic.alphabetic_words(weights)]
        self.assertEqual(least.cost(weights, found), least_cost)
        self.assertEqual([alphabetic.range_values([]), alphabetic.alphabetic_words([])], [{}, []])
        self.assertIs(alphabetic.shows_least([], 0, {}), False)

    def test_models_beyond(self):
        for model in (models.Learner(70, 200, 20000), models.Context(70, 200, 20000), models.Counts([3] * 70)):
            message = list(range(70)) * 3
            bits = intervals.encode_message(model, message)
            self.assertEqual(intervals.decode_message(model, bits, 210), message)
        # a limit that is less than the size holds no weight below 1
        model = models.Learner(5, 3, 2)
        model.learn(4)
        self.assertEqual([model.weight(symbol) for symbol in range(5)], [1, 1, 1, 1, 2])

    def test_coding_a_symbol_without_weight_comes_to_an_end(self):
        self.assertEqual(intervals.interval(models.Counts([1, 0]), [0, 1]), (1, 0, 1))
        intervals.encode_message(models.Counts([1, 0]), [0, 1])
        intervals.least_exponent(0, 5)

    def test_numbers_beyond(self):
        model = models.Counts([3] * 70)
        message = list(range(70))
        self.assertEqual(numbers.unpack(model, numbers.pack(model, message, 1 << 70), 70), (message, 1 << 70))
        # totals that do not divide 1 << 16, and some that are greater than all states
        for weights in ([1, 2], [3] * 70, [1 << 16, 1 << 16], [1 << 23, 1 << 23], [1 << 24, 1], [1 << 30, 5]):
            state, words = numbers.pack_words(models.Counts(weights), [0, 1, 1, 0] * 5)
            self.assertEqual([type(state), type(words)], [int, list])
        # states outside of the range
        self.assertEqual(numbers.unpack_words(models.Counts([1, 1]), 1 << 30, [], 3), ([0, 0, 0], 1 << 27, 0))
        self.assertEqual(numbers.unpack_words(models.Counts([1, 1]), 5, [1, 2], 1), ([1], 2 * 65536 + 258, 2))

    def test_integers_beyond(self):
        for n in (0, 1 << 40, 1 << 64):
            for function in (integers.gamma_bits, integers.delta_bits, integers.fibonacci_bits):
                self.assertEqual({type(bit) for bit in function(n)} - {int}, set())
        self.assertEqual(integers.read_rice(25, integers.rice_bits(25, 1 << 27), 0), (1 << 27, 30))
        self.assertEqual(integers.read_fibonacci(integers.fibonacci_bits(1 << 64), 0)[0], 1 << 64)
        for read in (integers.read_gamma, integers.read_delta, integers.read_fibonacci):
            with self.assertRaises(errors.Truncated) as caught:
                read([1, 1], 3)
            self.assertEqual(caught.exception.place, 2)

    def test_blocks_beyond(self):
        for size, block in ((1, [0, 0, 0]), (17, list(range(17)) * 2), (20, list(range(20))), (2, [0, 1, 1] * 110)):
            bits = blocks.write_block(size, block)
            if len(block) <= 300:
                self.assertEqual(blocks.read_block(size, bits, 0), (block, len(bits)))
                for form in range(4):
                    bits = integers.gamma_bits(len(block) + 1) + [form >> 1, form & 1] + blocks.body(size, block, form)
                    self.assertEqual(blocks.read_block(size, bits, 0), (block, len(bits)))
            else:
                with self.assertRaises(errors.InvalidBlock) as caught:
                    blocks.read_block(size, bits, 0)
                self.assertEqual(caught.exception.place, 0)
        self.assertEqual([blocks.body(3, [], form) for form in range(4)], [[], [0] * 12, [1] * 4, [1]])
        self.assertEqual(blocks.block_lengths([0, 0]), [0, 0])

    def test_archives_beyond(self):
        bits = archives.write_archive(17, 3, list(range(17)))
        self.assertEqual(archives.read_archive(17, bits), list(range(17)))
        # a chunk of 0 is taken as 1
        self.assertEqual(archives.read_archive(2, archives.write_archive(2, 0, [1, 0])), [1, 0])
        for chunk, message, place in ((300, [0] * 3001, 0), (301, [1] * 5, 5)):
            with self.assertRaises(errors.InvalidBlock) as caught:
                archives.open_archive(archives.write_archive(2, chunk, message))
            self.assertEqual(caught.exception.place, place)
        for index in (-1, -2, -7):
            self.assertIsNone(archives.read_symbol(3, ARCHIVE, index))

    def test_limit_that_is_too_small(self):
        self.assertIsNone(least.values([1, 1, 1], 1)[(0, 0, 1)])
        self.assertIsNone(least.least_lengths([1, 1, 1], 1))
        self.assertIsNone(least.packaged_lengths([1, 1, 1], 1))
        self.assertIsNone(least.packaged_lengths([1] * 17, 4))
        self.assertIsNotNone(least.packaged_lengths([1] * 16, 4))


if __name__ == "__main__":
    unittest.main()
