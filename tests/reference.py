"""Slow answers that follow the words of the document, for comparison with the program."""

from fractions import Fraction
from itertools import product


def all_lengths(size, longest):
    """All lists of lengths of one size, from 0 to the longest."""
    return [list(lengths) for lengths in product(range(longest + 1), repeat=size)]


def all_bits(count):
    """All lists of so many bits."""
    return [list(bits) for bits in product((0, 1), repeat=count)]


def share(lengths):
    """The part of the whole room that the words take."""
    return sum((Fraction(1, 2 ** length) for length in lengths if length), Fraction(0))


def belongs_to_code(lengths):
    return any(lengths) and share(lengths) <= 1


def code_words(lengths):
    """Each symbol in turn gets the least word of its length that begins with no earlier word."""
    given = []
    found = [None] * len(lengths)
    for length in range(1, max(lengths) + 1):
        for symbol, wanted in enumerate(lengths):
            if wanted == length:
                word = next(bits for bits in all_bits(length)
                            if not any(bits[:len(other)] == other for other in given))
                given.append(word)
                found[symbol] = word
    return found


def reading(lengths, bits, at, count):
    """What reading gives: (message, place), or (name of the error, its place)."""
    table = code_words(lengths)
    message = []
    place = at
    for _ in range(count):
        begin = place
        taken = []
        while taken not in table:
            if place == len(bits):
                return "Truncated", len(bits)
            taken = taken + [bits[place]]
            place += 1
            if not any(word is not None and word[:len(taken)] == taken for word in table):
                return "InvalidWord", begin
        message.append(table.index(taken))
    return message, place


def cost_of(weights, lengths):
    total = 0
    for symbol in range(len(weights)):
        total += weights[symbol] * lengths[symbol]
    return total


def least_cost(weights, limit):
    """The least cost of all codes that keep the limit, all of them tried."""
    return min(cost_of(weights, lengths)
               for lengths in product(range(1, limit + 1), repeat=len(weights))
               if share(lengths) <= 1)


def stage_choices(weights, limit, stage):
    """The choices of a stage, as point 02.3 says them."""
    depth, m, k = stage
    n = len(weights)
    ranked = sorted(weights, reverse=True)
    found = []
    for a in range(0, min(k, n - m) + 1):
        if depth == 0 and a != 0:
            continue
        if depth == limit and a != n - m:
            continue
        if m + a == n:
            found.append((a, 0, None))
        elif a != k:
            found.append((a, sum(ranked[m + a:]), (depth + 1, m + a, min(2 * (k - a), n - m - a))))
    return found


def paths(weights, limit, stage):
    """All ways from a stage to an end of the code, as pairs (sum of costs, list of the choices)."""
    found = []
    for a, price, following in stage_choices(weights, limit, stage):
        if following is None:
            found.append((price, [a]))
        else:
            found.extend((price + rest, [a] + more) for rest, more in paths(weights, limit, following))
    return found


def stages_from(weights, limit, stage):
    """The set of a stage and of all stages that choices lead to from it."""
    found = set()
    open_stages = [stage]
    while open_stages:
        stage = open_stages.pop()
        if stage is not None and stage not in found:
            found.add(stage)
            open_stages.extend(following for _, _, following in stage_choices(weights, limit, stage))
    return found


def lengths_of_way(weights, way):
    """The lengths that a list of choices from the first stage on gives."""
    ranked = sorted(range(len(weights)), key=lambda symbol: (-weights[symbol], symbol))
    lengths = [None] * len(weights)
    given = 0
    for depth, a in enumerate(way):
        for symbol in ranked[given:given + a]:
            lengths[symbol] = depth
        given += a
    return lengths


def chosen_lengths(weights, limit):
    """The lengths of the least code: of the cheapest ways, the one with the greatest choices first."""
    ways = paths(weights, limit, (0, 0, 1))
    least = min(total for total, _ in ways)
    return lengths_of_way(weights, max(way for total, way in ways if total == least))


def chosen_lengths_of_many(weights, limit):
    """The same for many weights: of each stage only the best way is kept."""
    known = {}

    def best_way(stage):
        if stage not in known:
            ways = []
            for a, price, following in stage_choices(weights, limit, stage):
                rest = (0, []) if following is None else best_way(following)
                if rest is not None:
                    ways.append((price + rest[0], [a] + rest[1]))
            least = min((total for total, _ in ways), default=None)
            known[stage] = max(((total, way) for total, way in ways if total == least), default=None)
        return known[stage]

    return lengths_of_way(weights, best_way((0, 0, 1))[1])


def least_cost_of_many(weights, limit):
    """The least cost within a limit, for many weights: the tree is built from its deepest nodes upwards.

    A state (nodes, hung) says how many nodes a depth has got from below, and how
    many symbols, the lightest ones, hang there. Each depth is paid for by all
    symbols that hang at it or below.
    """
    below = [0]
    for weight in sorted(weights):
        below.append(below[-1] + weight)
    best = {(0, 0): 0}
    for _ in range(limit):
        above = {}
        for (nodes, hung), total in best.items():
            for count in range(hung, len(weights) + 1):
                key = ((nodes + count - hung + 1) // 2, count)
                price = total + below[count]
                if price < above.get(key, price + 1):
                    above[key] = price
        best = above
    return best[(1, len(weights))]
