"""Codes of least cost whose words are in alphabetic order."""


def running_sums(weights):
    """Return the list of weight(0, j), for j from 0 to the number of weights."""
    sums = [0]
    for weight in weights:
        sums.append(sums[-1] + weight)
    return sums


def parted_values(table, start, end):
    """Return the sums of the values of both parts of a range, for each place between, ascending."""
    return [table[(start, middle)] + table[(middle, end)] for middle in range(start + 1, end)]


def range_values(weights):
    """Return the dict of the values of all ranges."""
    sums = running_sums(weights)
    count = len(weights)
    table = {(start, start + 1): 0 for start in range(count)}
    # Both parts of a range are shorter than the range.
    for width in range(2, count + 1):
        for start in range(count - width + 1):
            end = start + width
            table[(start, end)] = sums[end] - sums[start] + min(parted_values(table, start, end))
    return table


def range_cut(table, start, end):
    """Return the cut of a range."""
    found = parted_values(table, start, end)
    return start + 1 + found.index(min(found))


def alphabetic_words(weights):
    """Return the list of the words of the range of all symbols."""
    if not weights:
        return []
    table = range_values(weights)
    found = []
    waiting = [(0, len(weights), [])]
    # The left part is taken up before the right one, so the words come in the
    # order of the symbols.
    while waiting:
        start, end, word = waiting.pop()
        if end == start + 1:
            found.append(word)
        else:
            middle = range_cut(table, start, end)
            waiting.append((middle, end, word + [1]))
            waiting.append((start, middle, word + [0]))
    return found


def is_range_low_enough(sums, table, start, end):
    """Return True if no cut of a range has a lesser sum than the value of the range."""
    if end == start + 1:
        return table[(start, end)] <= 0
    weight = sums[end] - sums[start]
    return all(table[(start, end)] <= weight + parted for parted in parted_values(table, start, end))


def shows_least(weights, cost, table):
    """Return True if the table shows that the cost is the least one, otherwise False."""
    whole = (0, len(weights))
    if whole not in table or table[whole] != cost:
        return False
    sums = running_sums(weights)
    return all(is_range_low_enough(sums, table, start, end) for start, end in table)
