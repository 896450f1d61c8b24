"""Points 05.1 to 05.4: models."""

import unittest

from kraftroom.models import Context, Counts, Learner
from tests import reference
from tests.test_least import scattered

LEARNERS = [(1, 0, 1), (1, 5, 1), (1, 3, 10), (2, 1, 2), (2, 0, 2), (3, 4, 8), (3, 100, 3), (4, 1, 10), (5, 7, 300),
            (16, 8, 1000), (64, 100, 64), (64, 100, 10000), (64, 0, 64)]
CLASSES = [Counts, Learner, Context]
METHODS = {"size": [], "total": [], "low": ["symbol"], "weight": ["symbol"], "symbol_at": ["number"],
           "learn": ["symbol"], "fresh": []}


def messages(size):
    """Messages with much and with little repetition, the same ones in every run."""
    yield []
    yield [size - 1]
    yield [0] * 30
    yield list(range(size)) + list(range(size - 1, -1, -1))
    yield scattered(60, size)
    yield [symbol % size for symbol in scattered(60, 3)]


class ModelCase(unittest.TestCase):
    def assert_weights(self, model, weights):
        """Each method tells what belongs to these weights."""
        self.assertEqual(model.size(), len(weights))
        self.assertEqual(model.total(), sum(weights))
        low = 0
        for symbol, weight in enumerate(weights):
            self.assertEqual([model.low(symbol), model.weight(symbol)], [low, weight])
            for number in {low, low + weight // 2, low + weight - 1} if weight else ():
                self.assertEqual(model.symbol_at(number), symbol)
            low += weight

    def assert_learns(self, model, told):
        """The model has the weights that are told, after each symbol of some messages."""
        for message in messages(model.size()):
            learner = model.fresh()
            self.assert_weights(learner, told.after([]))
            for at, symbol in enumerate(message, 1):
                self.assertIsNone(learner.learn(symbol))
                self.assert_weights(learner, told.after(message[:at]))
            again = learner.fresh()
            self.assertIs(type(again), type(model))
            self.assert_weights(again, told.after([]))
            # what the new one learns does not reach the one that it came from
            again.learn(0)
            again.learn(model.size() - 1)
            self.assert_weights(learner, told.after(message))
            self.assert_weights(again, told.after([0, model.size() - 1]))
            self.assert_weights(again.fresh(), told.after([]))
        self.assert_weights(model, told.after([]))


class Classes(unittest.TestCase):
    def test_each_class_has_the_methods_itself(self):
        for found in CLASSES:
            self.assertEqual(found.__module__, "kraftroom.models")
            for name, parameters in METHODS.items():
                self.assertIn(name, vars(found))
                code = vars(found)[name].__code__
                self.assertEqual(list(code.co_varnames[:code.co_argcount]), ["self"] + parameters)

    def test_arguments_by_name(self):
        self.assertEqual(Counts(weights=[1, 2]).total(), 3)
        for found in (Learner, Context):
            model = found(size=2, step=3, limit=10)
            model.learn(symbol=0)
            self.assertEqual(model.fresh().total(), 2)

    def test_kinds_of_values(self):
        for model in (Counts([1, 3]), Learner(2, 3, 9), Context(2, 3, 9)):
            told = [model.size(), model.total(), model.low(1), model.weight(1), model.symbol_at(1)]
            self.assertEqual([type(number) for number in told], [int] * 5)


class CountsModel(ModelCase):
    def test_weights(self):
        for weights in ([1], [7], [1, 3], [3, 1, 0, 5], [10000] * 64, [1] * 64, scattered(64, 100)):
            self.assert_weights(Counts(weights), weights)
            self.assert_learns(Counts(weights), reference.FixedWeights(weights))

    def test_each_number(self):
        model = Counts([2, 0, 3, 1])
        self.assertEqual([model.symbol_at(number) for number in range(6)], [0, 0, 2, 2, 2, 3])
        self.assertEqual([model.low(symbol) for symbol in range(4)], [0, 2, 2, 5])
        self.assertEqual([model.weight(symbol) for symbol in range(4)], [2, 0, 3, 1])

    def test_symbols_with_the_weight_0(self):
        for weights in ([0, 1], [1, 0], [0, 0, 4, 0, 0], [0, 2, 0, 0, 3, 0]):
            model = Counts(weights)
            self.assert_weights(model, weights)
            for number in range(model.total()):
                symbol = model.symbol_at(number)
                self.assertTrue(model.low(symbol) <= number < model.low(symbol) + model.weight(symbol))

    def test_one_symbol(self):
        model = Counts([3])
        self.assertEqual([model.size(), model.total(), model.low(0), model.weight(0)], [1, 3, 0, 3])
        self.assertEqual([model.symbol_at(number) for number in range(3)], [0, 0, 0])

    def test_learning_does_nothing(self):
        model = Counts([1, 0, 3])
        for symbol in (0, 2, 2, 1):
            self.assertIsNone(model.learn(symbol))
            self.assert_weights(model, [1, 0, 3])

    def test_list_is_copied(self):
        weights = [1, 3]
        model = Counts(weights)
        weights[0] = 9
        weights.append(5)
        self.assert_weights(model, [1, 3])
        self.assert_weights(model.fresh(), [1, 3])
        self.assertEqual(weights, [9, 3, 5])

    def test_fresh(self):
        model = Counts([1, 3])
        self.assertIsNot(model.fresh(), model)
        self.assertIs(type(model.fresh()), Counts)
        self.assert_weights(model.fresh(), [1, 3])


class LearnerModel(ModelCase):
    def test_example_of_the_interface(self):
        learner = Learner(3, 4, 8)
        learner.learn(1)
        self.assertEqual([learner.total(), learner.weight(1), learner.symbol_at(5)], [7, 5, 1])
        learner.learn(1)
        self.assertEqual([learner.weight(0), learner.weight(1), learner.fresh().total()], [1, 5, 3])

    def test_all_weights_are_1_at_first(self):
        for size, step, limit in LEARNERS:
            self.assert_weights(Learner(size, step, limit), [1] * size)

    def test_learning(self):
        for size, step, limit in LEARNERS:
            self.assert_learns(Learner(size, step, limit), reference.LearnedWeights(size, step, limit))

    def test_total_that_equals_the_limit(self):
        learner = Learner(2, 3, 8)
        learner.learn(0)
        learner.learn(1)
        self.assert_weights(learner, [4, 4])
        learner.learn(1)
        self.assert_weights(learner, [2, 4])

    def test_halving_rounds_up(self):
        learner = Learner(3, 2, 6)
        learner.learn(0)
        self.assert_weights(learner, [3, 1, 1])
        learner.learn(1)
        self.assert_weights(learner, [2, 2, 1])

    def test_halving_once(self):
        # the total is greater than the limit still, and stays so
        learner = Learner(2, 100, 2)
        learner.learn(0)
        self.assert_weights(learner, [51, 1])
        learner.learn(0)
        self.assert_weights(learner, [76, 1])
        learner.learn(1)
        self.assert_weights(learner, [38, 51])

    def test_step_0(self):
        for size, limit in ((1, 1), (3, 3), (3, 100), (64, 64)):
            learner = Learner(size, 0, limit)
            for symbol in range(size):
                learner.learn(symbol)
                self.assert_weights(learner, [1] * size)

    def test_limit_that_equals_the_size(self):
        learner = Learner(3, 1, 3)
        for symbol in (0, 1, 2, 2):
            learner.learn(symbol)
            self.assert_weights(learner, [1, 1, 1])
        learner = Learner(3, 4, 3)
        learner.learn(2)
        self.assert_weights(learner, [1, 1, 3])

    def test_one_symbol(self):
        learner = Learner(1, 5, 10)
        for weight in (6, 6, 6):
            learner.learn(0)
            self.assert_weights(learner, [weight])


class ContextModel(ModelCase):
    def test_first_learner_is_that_of_the_symbol_0(self):
        model = Context(2, 3, 100)
        self.assert_weights(model, [1, 1])
        model.learn(0)
        self.assert_weights(model, [4, 1])
        model.learn(1)
        # nothing was learned behind the symbol 1
        self.assert_weights(model, [1, 1])
        model.learn(1)
        self.assert_weights(model, [1, 4])
        model.learn(0)
        # what was learned before all symbols, and behind the symbol 0
        self.assert_weights(model, [4, 4])
        model.learn(1)
        self.assert_weights(model, [4, 4])
        model.learn(0)
        self.assert_weights(model, [4, 7])

    def test_each_learner_halves_its_own_weights(self):
        model = Context(3, 4, 8)
        for symbol in (0, 0, 2, 0):
            model.learn(symbol)
        # [1, 1, 1] became [5, 1, 1], [9, 1, 1] halved and so [5, 1, 1], then [5, 1, 5] halved
        self.assert_weights(model, [3, 1, 3])
        model.learn(2)
        self.assert_weights(model, [5, 1, 1])

    def test_learning(self):
        for size, step, limit in LEARNERS:
            self.assert_learns(Context(size, step, limit), reference.ContextWeights(size, step, limit))

    def test_fresh_begins_with_the_symbol_0(self):
        model = Context(3, 4, 100)
        for symbol in (0, 2, 1):
            model.learn(symbol)
        again = model.fresh()
        self.assert_weights(again, [1, 1, 1])
        again.learn(2)
        again.learn(0)
        self.assert_weights(again, [1, 1, 5])
        self.assert_weights(model, [1, 1, 1])

    def test_one_symbol(self):
        model = Context(1, 5, 10)
        for _ in range(3):
            model.learn(0)
            self.assert_weights(model, [6])

    def test_step_0(self):
        model = Context(2, 0, 2)
        for symbol in (1, 0, 0, 1, 1):
            model.learn(symbol)
            self.assert_weights(model, [1, 1])


if __name__ == "__main__":
    unittest.main()
