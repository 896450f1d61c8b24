"""Codes for integers: gamma, delta, Rice and Fibonacci."""

from kraftroom.errors import InvalidWord, Truncated
from kraftroom.fields import field_bits, read_field

MOST_ZEROS = 40
MOST_TOLD = 40


def gamma_bits(n):
    """Return the gamma code of an integer from 1."""
    count = n.bit_length()
    return [0] * (count - 1) + field_bits(n, count)


def delta_bits(n):
    """Return the delta code of an integer from 1."""
    count = n.bit_length()
    return gamma_bits(count) + field_bits(n, count)[1:]


def rice_bits(k, n):
    """Return the Rice code of an integer from 0 with a parameter."""
    return [1] * (n >> k) + [0] + field_bits(n, k)


def fibonacci_terms(n):
    """Return the Fibonacci numbers that are not greater than an integer, ascending."""
    found = []
    term, following = 1, 2
    while term <= n:
        found.append(term)
        term, following = following, term + following
    return found


def fibonacci_bits(n):
    """Return the Fibonacci code of an integer from 1."""
    found = []
    rest = n
    # What remains after a term was taken away is less than that term, so each
    # term is needed at most once.
    for term in reversed(fibonacci_terms(n)):
        if term <= rest:
            found.append(1)
            rest = rest - term
        else:
            found.append(0)
    return found[::-1] + [1]


def count_zeros(bits, at):
    """Return the number of zero bits with which the gamma code at a place begins."""
    place = at
    while place < len(bits) and bits[place] == 0:
        place += 1
        if place - at > MOST_ZEROS:
            raise InvalidWord(at)
    return place - at


def read_gamma(bits, at):
    """Return the integer whose gamma code stands at a place, and the place behind it."""
    zeros = count_zeros(bits, at)
    return read_field(bits, at + zeros, zeros + 1)


def read_delta(bits, at):
    """Return the integer whose delta code stands at a place, and the place behind it."""
    count, place = read_gamma(bits, at)
    if count > MOST_TOLD:
        raise InvalidWord(at)
    rest, place = read_field(bits, place, count - 1)
    return (1 << (count - 1)) + rest, place


def read_rice(k, bits, at):
    """Return the integer whose Rice code with a parameter stands at a place, and the place behind it."""
    place = at
    while place < len(bits) and bits[place] == 1:
        place += 1
    ones = place - at
    # The bit 0 that ends the ones is read as the first bit of the field, to
    # whose number it adds nothing.
    low, place = read_field(bits, place, k + 1)
    return (ones << k) + low, place


def read_fibonacci(bits, at):
    """Return the integer whose Fibonacci code stands at a place, and the place behind it."""
    number = 0
    term, following = 1, 2
    before = 0
    place = at
    while place < len(bits):
        bit = bits[place]
        place += 1
        # No two terms of a sum stand side by side: two bits 1 end the code.
        if bit == 1 and before == 1:
            return number, place
        number += bit * term
        term, following = following, term + following
        before = bit
    raise Truncated(len(bits))
