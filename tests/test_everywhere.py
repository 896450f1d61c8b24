"""Point 00.1 and the introduction of the interface: what holds for all modules."""

import ast
import copy
import inspect
import unittest
from pathlib import Path

from kraftroom import errors, least, prefix
from tests import reference

PACKAGE = Path(__file__).resolve().parent.parent / "kraftroom"
INTERFACE = {
    prefix: {
        "room": ["lengths"],
        "is_code": ["lengths"],
        "words": ["lengths"],
        "write_symbols": ["lengths", "message"],
        "read_symbols": ["lengths", "bits", "at", "count"],
    },
    least: {
        "ranks": ["weights"],
        "cost": ["weights", "lengths"],
        "choices": ["weights", "limit", "stage"],
        "values": ["weights", "limit"],
        "least_lengths": ["weights", "limit"],
        "packaged_lengths": ["weights", "limit"],
    },
}
CALLS = [
    (prefix.room, [[2, 0, 1, 3]]),
    (prefix.is_code, [[2, 0, 1, 3]]),
    (prefix.is_code, [[3, 1, 1, 1]]),
    (prefix.words, [[2, 0, 1, 3]]),
    (prefix.words, [[20, 6, 1, 0, 6]]),
    (prefix.write_symbols, [[2, 0, 1, 3], [3, 0, 2, 2]]),
    (prefix.read_symbols, [[2, 0, 1, 3], [1, 1, 0, 1, 0], 0, 2]),
    (least.ranks, [[5, 1, 1, 2, 9, 0]]),
    (least.cost, [[5, 1, 1, 2], [3, 1, 3, 2]]),
    (least.choices, [[1, 5, 1, 2], 3, (1, 0, 2)]),
    (least.values, [[1, 5, 0, 2], 3]),
    (least.least_lengths, [[1, 5, 0, 2], 3]),
    (least.packaged_lengths, [[1, 5, 0, 2], 3]),
    (least.packaged_lengths, [[7, 3, 9, 0, 3] * 12, 20]),
]


def module_trees():
    return [(path.name, ast.parse(path.read_text())) for path in sorted(PACKAGE.glob("*.py"))]


class Interface(unittest.TestCase):
    def test_functions_stand_where_they_are_listed(self):
        for module, functions in INTERFACE.items():
            for name, parameters in functions.items():
                with self.subTest(module=module.__name__, name=name):
                    function = getattr(module, name)
                    self.assertEqual(function.__module__, module.__name__)
                    self.assertEqual(list(inspect.signature(function).parameters), parameters)

    def test_classes_stand_where_they_are_listed(self):
        for name in ("KraftroomError", "Truncated", "InvalidWord", "Undecided", "InvalidBlock"):
            found = getattr(errors, name)
            self.assertEqual(found.__module__, "kraftroom.errors")
            self.assertEqual(list(inspect.signature(found).parameters), ["place"])

    def test_arguments_by_name(self):
        for function, arguments in CALLS:
            parameters = INTERFACE[inspect.getmodule(function)][function.__name__]
            self.assertEqual(function(**dict(zip(parameters, arguments))), function(*arguments))


class Arguments(unittest.TestCase):
    def test_no_argument_is_modified(self):
        for function, arguments in CALLS:
            with self.subTest(function=function.__name__):
                passed = copy.deepcopy(arguments)
                function(*passed)
                self.assertEqual(passed, arguments)

    def test_no_argument_is_modified_when_reading_fails(self):
        for bits in ([1, 1, 1], [1, 1]):
            lengths = [2, 0, 1, 3]
            passed = list(bits)
            with self.assertRaises(errors.KraftroomError):
                prefix.read_symbols(lengths, passed, 0, 2)
            self.assertEqual([lengths, passed], [[2, 0, 1, 3], bits])

    def test_the_same_call_gives_the_same_again(self):
        first = [function(*copy.deepcopy(arguments)) for function, arguments in CALLS]
        kept = copy.deepcopy(first)
        again = [function(*copy.deepcopy(arguments)) for function, arguments in CALLS[::-1]]
        self.assertEqual(again[::-1], kept)
        self.assertEqual(first, kept)

    def test_what_is_returned_is_not_an_argument(self):
        for function, arguments in CALLS:
            found = function(*arguments)
            if isinstance(found, list):
                found.clear()
                self.assertEqual([len(part) > 0 for part in arguments if isinstance(part, list)],
                                 [True for part in arguments if isinstance(part, list)])


class NothingFromOutside(unittest.TestCase):
    def test_modules_import_the_package_only(self):
        for name, tree in module_trees():
            for node in ast.walk(tree):
                with self.subTest(name=name):
                    self.assertNotIsInstance(node, ast.Import)
                    if isinstance(node, ast.ImportFrom):
                        self.assertEqual([node.level, node.module.split(".")[0]], [0, "kraftroom"])

    def test_modules_use_no_files(self):
        for name, tree in module_trees():
            used = {node.id for node in ast.walk(tree) if isinstance(node, ast.Name)}
            self.assertEqual(used & {"open", "input", "print", "exec", "eval", "hash", "id", "__import__"}, set(), name)


class BeyondLimits(unittest.TestCase):
    """The interface: callers may go somewhat beyond a limit, and no error is raised for it."""

    def test_lengths_beyond_20(self):
        self.assertIs(prefix.is_code([1, 2, 22]), True)
        self.assertIs(prefix.is_code([1, 1, 22]), False)
        self.assertIs(prefix.is_code([21]), True)
        self.assertEqual(prefix.room([1, 1, 21]), -1)
        self.assertEqual(prefix.room([21, 21]), (1 << 20) - 1)
        self.assertEqual(prefix.words([1, 22]), [[0], [1] + [0] * 21])
        bits = prefix.write_symbols([1, 22], [1, 0, 1])
        self.assertEqual(prefix.read_symbols([1, 22], bits, 0, 3), ([1, 0, 1], 45))

    def test_lengths_below_0(self):
        self.assertIs(prefix.is_code([-1, 2]), False)
        self.assertEqual(prefix.words([-1, 2]), [None, [0, 0]])

    def test_alphabets_beyond_64(self):
        lengths = [7] * 80
        self.assertIs(prefix.is_code(lengths), True)
        message = list(range(80))
        bits = prefix.write_symbols(lengths, message)
        self.assertEqual(prefix.read_symbols(lengths, bits, 0, 80), (message, 560))

    def test_a_place_behind_the_end(self):
        self.assertEqual(prefix.read_symbols([1, 1], [0, 1], 3, 0), ([], 3))
        with self.assertRaises(errors.Truncated) as caught:
            prefix.read_symbols([1, 1], [0, 1], 3, 1)
        self.assertEqual(caught.exception.place, 2)

    def test_weights_and_limits_beyond(self):
        weights = [2000000 + 7 * at for at in range(20)]
        least_cost = reference.least_cost_of_many(weights, 18)
        self.assertEqual(least.ranks(weights), list(range(19, -1, -1)))
        self.assertEqual(least.values(weights, 18)[(0, 0, 1)], least_cost)
        self.assertEqual(least.cost(weights, least.least_lengths(weights, 18)), least_cost)
        many = [3] * 70
        self.assertEqual(least.cost(many, least.packaged_lengths(many, 22)), reference.least_cost_of_many(many, 22))

    def test_one_weight(self):
        for limit in (1, 3):
            self.assertEqual(least.least_lengths([5], limit), [1])
            self.assertEqual(least.packaged_lengths([5], limit), [1])

    def test_limit_that_is_too_small(self):
        self.assertIsNone(least.values([1, 1, 1], 1)[(0, 0, 1)])
        self.assertIsNone(least.least_lengths([1, 1, 1], 1))
        self.assertIsNone(least.packaged_lengths([1, 1, 1], 1))
        self.assertIsNone(least.packaged_lengths([1] * 17, 4))
        self.assertIsNotNone(least.packaged_lengths([1] * 16, 4))


if __name__ == "__main__":
    unittest.main()
