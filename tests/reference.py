"""Slow answers that follow the words of the document, for comparison with the program."""

from fractions import Fraction
from itertools import product


def all_lengths(size, longest):
    """All lists of lengths of one size, from 0 to the longest."""
    return [list(lengths) for lengths in product(range(longest + 1), repeat=size)]


def all_bits(count):
    """All lists of so many bits."""
    return [list(bits) for bits in product((0, 1), repeat=count)]


def share(lengths):
    """The part of the whole room that the words take."""
    return sum((Fraction(1, 2 ** length) for length in lengths if length), Fraction(0))


def belongs_to_code(lengths):
    return any(lengths) and share(lengths) <= 1


def code_words(lengths):
    """Each symbol in turn gets the least word of its length that begins with no earlier word."""
    given = []
    found = [None] * len(lengths)
    for length in range(1, max(lengths) + 1):
        for symbol, wanted in enumerate(lengths):
            if wanted == length:
                word = next(bits for bits in all_bits(length)
                            if not any(bits[:len(other)] == other for other in given))
                given.append(word)
                found[symbol] = word
    return found


def reading(lengths, bits, at, count):
    """What reading gives: (message, place), or (name of the error, its place)."""
    table = code_words(lengths)
    message = []
    place = at
    for _ in range(count):
        begin = place
        taken = []
        while taken not in table:
            if place == len(bits):
                return "Truncated", len(bits)
            taken = taken + [bits[place]]
            place += 1
            if not any(word is not None and word[:len(taken)] == taken for word in table):
                return "InvalidWord", begin
        message.append(table.index(taken))
    return message, place


def cost_of(weights, lengths):
    total = 0
    for symbol in range(len(weights)):
        total += weights[symbol] * lengths[symbol]
    return total


def least_cost(weights, limit):
    """The least cost of all codes that keep the limit, all of them tried."""
    return min(cost_of(weights, lengths)
               for lengths in product(range(1, limit + 1), repeat=len(weights))
               if share(lengths) <= 1)


def stage_choices(weights, limit, stage):
    """The choices of a stage, as point 02.3 says them."""
    depth, m, k = stage
    n = len(weights)
    ranked = sorted(weights, reverse=True)
    found = []
    for a in range(0, min(k, n - m) + 1):
        if depth == 0 and a != 0:
            continue
        if depth == limit and a != n - m:
            continue
        if m + a == n:
            found.append((a, 0, None))
        elif a != k:
            found.append((a, sum(ranked[m + a:]), (depth + 1, m + a, min(2 * (k - a), n - m - a))))
    return found


def paths(weights, limit, stage):
    """All ways from a stage to an end of the code, as pairs (sum of costs, list of the choices)."""
    found = []
    for a, price, following in stage_choices(weights, limit, stage):
        if following is None:
            found.append((price, [a]))
        else:
            found.extend((price + rest, [a] + more) for rest, more in paths(weights, limit, following))
    return found


def stages_from(weights, limit, stage):
    """The set of a stage and of all stages that choices lead to from it."""
    found = set()
    open_stages = [stage]
    while open_stages:
        stage = open_stages.pop()
        if stage is not None and stage not in found:
            found.add(stage)
            open_stages.extend(following for _, _, following in stage_choices(weights, limit, stage))
    return found


def lengths_of_way(weights, way):
    """The lengths that a list of choices from the first stage on gives."""
    ranked = sorted(range(len(weights)), key=lambda symbol: (-weights[symbol], symbol))
    lengths = [None] * len(weights)
    given = 0
    for depth, a in enumerate(way):
        for symbol in ranked[given:given + a]:
            lengths[symbol] = depth
        given += a
    return lengths


def chosen_lengths(weights, limit):
    """The lengths of the least code: of the cheapest ways, the one with the greatest choices first."""
    ways = paths(weights, limit, (0, 0, 1))
    least = min(total for total, _ in ways)
    return lengths_of_way(weights, max(way for total, way in ways if total == least))


def chosen_lengths_of_many(weights, limit):
    """The same for many weights: of each stage only the best way is kept."""
    known = {}

    def best_way(stage):
        if stage not in known:
            ways = []
            for a, price, following in stage_choices(weights, limit, stage):
                rest = (0, []) if following is None else best_way(following)
                if rest is not None:
                    ways.append((price + rest[0], [a] + rest[1]))
            least = min((total for total, _ in ways), default=None)
            known[stage] = max(((total, way) for total, way in ways if total == least), default=None)
        return known[stage]

    return lengths_of_way(weights, best_way((0, 0, 1))[1])


def least_cost_of_many(weights, limit):
    """The least cost within a limit, for many weights: the tree is built from its deepest nodes upwards.

    A state (nodes, hung) says how many nodes a depth has got from below, and how
    many symbols, the lightest ones, hang there. Each depth is paid for by all
    symbols that hang at it or below.
    """
    below = [0]
    for weight in sorted(weights):
        below.append(below[-1] + weight)
    best = {(0, 0): 0}
    for _ in range(limit):
        above = {}
        for (nodes, hung), total in best.items():
            for count in range(hung, len(weights) + 1):
                key = ((nodes + count - hung + 1) // 2, count)
                price = total + below[count]
                if price < above.get(key, price + 1):
                    above[key] = price
        best = above
    return best[(1, len(weights))]


def shows(weights, limit, lengths, certificate):
    """Whether a certificate shows that lengths have the least cost, as point 03.1 says it."""
    if len(lengths) != len(weights):
        return False
    if not all(1 <= length <= limit for length in lengths) or share(lengths) > 1:
        return False
    if (0, 0, 1) not in certificate:
        return False
    for stage in certificate:
        for _, price, following in stage_choices(weights, limit, stage):
            if following is not None and following not in certificate:
                return False
            if certificate[stage] > price + (0 if following is None else certificate[following]):
                return False
    return certificate[(0, 0, 1)] == cost_of(weights, lengths)


def certificate_for(weights, limit):
    """A certificate of all stages from the first one on: the values, or a great number where there is none."""
    known = {None: 0}

    def value(stage):
        if stage not in known:
            known[stage] = min((price + value(following)
                                for _, price, following in stage_choices(weights, limit, stage)), default=10 ** 12)
        return known[stage]

    value((0, 0, 1))
    del known[None]
    return known


def all_alphabetic_lengths(count):
    """The lengths of all alphabetic codes for a number of symbols, with words of at most `count - 1` bits."""
    every = sorted(bits for length in range(count) for bits in all_bits(length))
    found = set()

    def extend(given, at):
        if len(given) == count:
            found.add(tuple(len(word) for word in given))
            return
        for place in range(at, len(every)):
            word = every[place]
            if not given or word[:len(given[-1])] != given[-1]:
                extend(given + [word], place + 1)

    extend([], 0)
    return found


def range_words(weights, start, end, word):
    """The words and the value of a range, as point 04.2 says them."""
    if end == start + 1:
        return [word], 0
    best = None
    for middle in range(start + 1, end):
        left, value = range_words(weights, start, middle, word + [0])
        right, other = range_words(weights, middle, end, word + [1])
        if best is None or value + other < best[1]:
            best = left + right, value + other
    return best[0], best[1] + sum(weights[start:end])


def least_alphabetic_cost(weights):
    """The least cost of all alphabetic codes, by the way of Garsia and Wachs, which looks at no ranges."""
    row = list(weights)
    total = 0
    while len(row) > 1:
        at = next((at for at in range(1, len(row) - 1) if row[at - 1] <= row[at + 1]), len(row) - 1)
        joined = row[at - 1] + row[at]
        total += joined
        del row[at - 1:at + 1]
        place = at - 1
        while place > 0 and row[place - 1] < joined:
            place -= 1
        row.insert(place, joined)
    return total


def table_shows(weights, cost, table):
    """Whether a table shows that a cost is the least one, as point 04.4 says it."""
    count = len(weights)
    for start in range(count):
        if table[(start, start + 1)] > 0:
            return False
        for end in range(start + 2, count + 1):
            for middle in range(start + 1, end):
                if table[(start, end)] > sum(weights[start:end]) + table[(start, middle)] + table[(middle, end)]:
                    return False
    return table[(0, count)] == cost


class FixedWeights:
    """The weights of a Counts model, told by the list of the symbols that it learned."""

    def __init__(self, weights):
        self.weights = weights

    def after(self, learned):
        return self.weights


class LearnedWeights:
    """The weights of a Learner, told by the list of the symbols that it learned."""

    def __init__(self, size, step, limit):
        self.size = size
        self.step = step
        self.limit = limit

    def after(self, learned):
        weights = [1] * self.size
        for symbol in learned:
            weights[symbol] += self.step
            if sum(weights) > self.limit:
                weights = [(weight + 1) // 2 for weight in weights]
        return weights


class ContextWeights:
    """The weights of a Context, told by the list of the symbols that it learned."""

    def __init__(self, size, step, limit):
        self.learner = LearnedWeights(size, step, limit)

    def after(self, learned):
        before = [0] + learned
        return self.learner.after([symbol for last, symbol in zip(before, learned) if last == before[-1]])


def part_of(told, message):
    """The least fraction of the interval of a message, and the one behind it."""
    low, width = Fraction(0), Fraction(1)
    for at, symbol in enumerate(message):
        weights = told.after(message[:at])
        low += width * Fraction(sum(weights[:symbol]), sum(weights))
        width *= Fraction(weights[symbol], sum(weights))
    return low, low + width


def is_inside(bits, part):
    """Whether bits stand only for fractions of a part."""
    low = sum((Fraction(bit, 2 ** at) for at, bit in enumerate(bits, 1)), Fraction(0))
    return part[0] <= low and low + Fraction(1, 2 ** len(bits)) <= part[1]


def code_of(part):
    """The shortest bits that stand only for fractions of a part, and of those the least."""
    for count in range(10000):
        # The first of the parts of this size that does not begin too low.
        number = -(-part[0].numerator * 2 ** count // part[0].denominator)
        if Fraction(number + 1, 2 ** count) <= part[1]:
            return [int(bit) for bit in format(number, f"0{count}b")] if count else []


def decoding(told, bits, count):
    """What decoding gives: the message, or (name of the error, its place)."""
    message = []
    while len(message) < count:
        found = [symbol for symbol in range(len(told.after(message)))
                 if is_inside(bits, part_of(told, message + [symbol]))]
        if not found:
            return "Undecided", len(message)
        message = message + found
    return message
