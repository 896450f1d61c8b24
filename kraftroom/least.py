"""Codes of least cost among those that keep a limit."""

FIRST = (0, 0, 1)


def ranks(weights):
    """Return the list of the symbols in the order of their ranks."""
    order = sorted((-weight, symbol) for symbol, weight in enumerate(weights))
    return [symbol for _, symbol in order]


def cost(weights, lengths):
    """Return the cost of lengths for weights."""
    return sum(weight * length for weight, length in zip(weights, lengths))


def rests(weights):
    """Return the list of rest(m), for m from 0 to the number of weights."""
    sums = [0]
    # The last ranks have the least weights, and a rest begins with them.
    for weight in sorted(weights):
        sums.append(sums[-1] + weight)
    return sums[::-1]


def word_counts(limit, depth, free, left):
    """Return how many of the ranks that are left may get words of a depth, ascending."""
    if depth == 0:
        return [0]
    # A stage beyond the limit is treated as one at the limit, so that no
    # search runs on without an end.
    if depth >= limit:
        return [left] if left <= free else []
    return list(range(min(free, left) + 1))


def stage_choices(sums, limit, stage):
    """Return the choices of a stage for weights with these rests."""
    depth, m, free = stage
    left = len(sums) - 1 - m
    found = []
    for a in word_counts(limit, depth, free, left):
        if a == left:
            found.append((a, 0, None))
        elif a != free:
            found.append((a, sums[m + a], (depth + 1, m + a, min(2 * (free - a), left - a))))
    return found


def choices(weights, limit, stage):
    """Return the choices of a stage, ascending, as tuples (a, cost, next stage)."""
    return stage_choices(rests(weights), limit, stage)


def reached_stages(weights, limit):
    """Return a dict that maps the first stage and all that follow, by ascending depth, to their choices."""
    sums = rests(weights)
    found = {}
    waiting = [FIRST]
    while waiting:
        following = []
        for stage in waiting:
            if stage not in found:
                found[stage] = stage_choices(sums, limit, stage)
                following.extend([choice[2] for choice in found[stage] if choice[2] is not None])
        waiting = following
    return found


def least_sum(choice, known):
    """Return the least sum of costs to an end of the code that begins with a choice, or None."""
    _, price, following = choice
    if following is None:
        return price
    if known[following] is None:
        return None
    return price + known[following]


def stage_values(stages):
    """Return the values of stages that are given with their choices, by ascending depth."""
    known = {}
    # A choice leads one depth down, so the deepest stages come first.
    for stage in reversed(list(stages)):
        sums = [least_sum(choice, known) for choice in stages[stage]]
        known[stage] = min([total for total in sums if total is not None], default=None)
    return known


def values(weights, limit):
    """Return a dict that maps all stages from the first one on to their values, or to None."""
    return stage_values(reached_stages(weights, limit))


def least_lengths(weights, limit):
    """Return the lengths of the least code, or None if the limit is too small for any."""
    stages = reached_stages(weights, limit)
    known = stage_values(stages)
    if known[FIRST] is None:
        return None
    order = ranks(weights)
    lengths = [0] * len(weights)
    stage = FIRST
    while stage is not None:
        depth, m, _ = stage
        best = [choice for choice in stages[stage] if least_sum(choice, known) == known[stage]]
        a, _, stage = best[-1]
        for symbol in order[m:m + a]:
            lengths[symbol] = depth
    return lengths


def packages(row):
    """Return the neighbours of a row joined in pairs; one that is left over is dropped."""
    return [(light[0] + heavy[0], light[1] + heavy[1]) for light, heavy in zip(row[::2], row[1::2])]


def packaged_lengths(weights, limit):
    """Return lengths of the least cost that keep the limit, or None if it is too small for any."""
    coins = sorted((weight, [symbol]) for symbol, weight in enumerate(weights))
    row = coins
    for _ in range(limit - 1):
        row = sorted(coins + packages(row))
    # A code of n words without room takes 2 * n - 2 items of the last row; one
    # weight alone has room left and takes its only item.
    needed = max(1, 2 * len(weights) - 2)
    if len(row) < needed:
        return None
    lengths = [0] * len(weights)
    for _, symbols in row[:needed]:
        for symbol in symbols:
            lengths[symbol] += 1
    return lengths
