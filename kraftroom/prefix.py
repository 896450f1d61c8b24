"""Prefix codes that are given by the lengths of their words."""

from kraftroom.errors import InvalidWord, Truncated
from kraftroom.fields import field_bits

LONGEST = 20
ROOT = 1


def room(lengths):
    """Return the room of the lengths, which may be negative."""
    # Callers may pass lengths beyond 20: at the depth of the longest word all
    # shares are whole numbers, and shifting down keeps the sign of the room.
    depth = max([LONGEST, *lengths])
    taken = sum(1 << (depth - length) for length in lengths if length != 0)
    return ((1 << depth) - taken) >> (depth - LONGEST)


def is_code(lengths):
    """Return True if the lengths belong to a code, otherwise False."""
    return room(lengths) >= 0 and any(length != 0 for length in lengths)


def words(lengths):
    """Return the list of the words, with None for a symbol without a word."""
    found = [None] * len(lengths)
    number = 0
    depth = 0
    order = sorted((length, symbol) for symbol, length in enumerate(lengths) if length > 0)
    for length, symbol in order:
        number = number << (length - depth)
        depth = length
        found[symbol] = field_bits(number, length)
        number += 1
    return found


def write_symbols(lengths, message):
    """Return the bits of a message."""
    table = words(lengths)
    return [bit for symbol in message for bit in table[symbol]]


def word_tree(lengths):
    """Return a dict that maps each word to its symbol, and each shorter beginning of a word to None."""
    # The keys are the bits read as an integer behind a leading 1, because
    # beginnings that differ only in their number of zero bits have to differ.
    tree = {ROOT: None}
    for symbol, word in enumerate(words(lengths)):
        if word is not None:
            node = ROOT
            for bit in word:
                node = 2 * node + bit
                tree[node] = None
            tree[node] = symbol
    return tree


def read_word(tree, bits, at):
    """Return the symbol whose word stands at a place, and the place behind it."""
    node = ROOT
    place = at
    while tree[node] is None:
        if place >= len(bits):
            raise Truncated(len(bits))
        node = 2 * node + bits[place]
        if node not in tree:
            raise InvalidWord(at)
        place += 1
    return tree[node], place


def read_symbols(lengths, bits, at, count):
    """Return the message of `count` symbols from a place on, and the place behind it."""
    tree = word_tree(lengths)
    message = []
    place = at
    for _ in range(count):
        symbol, place = read_word(tree, bits, place)
        message.append(symbol)
    return message, place
