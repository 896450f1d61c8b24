"""Models: the weights that the symbols of a message have."""


def low_in(weights, symbol):
    """Return the sum of the weights of all lesser symbols."""
    return sum(weights[:symbol])


def symbol_in(weights, number):
    """Return the symbol at a number, or None if the number is not less than the total."""
    end = 0
    for symbol, weight in enumerate(weights):
        end += weight
        if number < end:
            return symbol
    return None


class Counts:
    """A model with fixed weights."""

    def __init__(self, weights):
        self.weights = list(weights)

    def size(self):
        """Return the size of the alphabet."""
        return len(self.weights)

    def total(self):
        """Return the sum of all weights."""
        return sum(self.weights)

    def low(self, symbol):
        """Return the sum of the weights of all lesser symbols."""
        return low_in(self.weights, symbol)

    def weight(self, symbol):
        """Return the weight of a symbol."""
        return self.weights[symbol]

    def symbol_at(self, number):
        """Return the symbol at a number from 0 to the total less one."""
        return symbol_in(self.weights, number)

    def learn(self, symbol):
        """Learn a symbol, which changes nothing."""
        return None

    def fresh(self):
        """Return a new model with the same weights."""
        return Counts(self.weights)


class Learner:
    """A model in which a symbol gains weight when it is learned."""

    def __init__(self, size, step, limit):
        self.step = step
        self.limit = limit
        self.weights = [1] * size

    def size(self):
        """Return the size of the alphabet."""
        return len(self.weights)

    def total(self):
        """Return the sum of all weights."""
        return sum(self.weights)

    def low(self, symbol):
        """Return the sum of the weights of all lesser symbols."""
        return low_in(self.weights, symbol)

    def weight(self, symbol):
        """Return the weight of a symbol."""
        return self.weights[symbol]

    def symbol_at(self, number):
        """Return the symbol at a number from 0 to the total less one."""
        return symbol_in(self.weights, number)

    def learn(self, symbol):
        """Learn a symbol: it gains the step, and all weights are halved if the total is beyond the limit then."""
        self.weights[symbol] += self.step
        if self.total() > self.limit:
            self.weights = [(weight + 1) // 2 for weight in self.weights]

    def fresh(self):
        """Return a new model that has learned nothing."""
        return Learner(len(self.weights), self.step, self.limit)


class Context:
    """A model with a Learner for each symbol, which tells the weights behind that symbol."""

    def __init__(self, size, step, limit):
        self.step = step
        self.limit = limit
        self.learners = [Learner(size, step, limit) for _ in range(size)]
        self.current = 0

    def size(self):
        """Return the size of the alphabet."""
        return len(self.learners)

    def total(self):
        """Return the sum of all weights."""
        return self.learners[self.current].total()

    def low(self, symbol):
        """Return the sum of the weights of all lesser symbols."""
        return self.learners[self.current].low(symbol)

    def weight(self, symbol):
        """Return the weight of a symbol."""
        return self.learners[self.current].weight(symbol)

    def symbol_at(self, number):
        """Return the symbol at a number from 0 to the total less one."""
        return self.learners[self.current].symbol_at(number)

    def learn(self, symbol):
        """Let the current Learner learn a symbol; then that of the symbol is the current one."""
        self.learners[self.current].learn(symbol)
        self.current = symbol

    def fresh(self):
        """Return a new model that has learned nothing."""
        return Context(len(self.learners), self.step, self.limit)
