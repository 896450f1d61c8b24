"""Fields: integers in a fixed number of bits, the most significant bit first."""

from kraftroom.errors import Truncated


def field_bits(number, width):
    """Return the field of a width that holds the lowest bits of a number."""
    return [(number >> at) & 1 for at in range(width - 1, -1, -1)]


def bits_number(bits):
    """Return the bits read as an integer."""
    number = 0
    for bit in bits:
        number = 2 * number + bit
    return number


def read_bits(bits, at, count):
    """Return the `count` bits from a place on, and the place behind them."""
    end = at + count
    if end > len(bits):
        raise Truncated(len(bits))
    return bits[at:end], end


def read_field(bits, at, width):
    """Return the integer in the field of a width at a place, and the place behind it."""
    taken, place = read_bits(bits, at, width)
    return bits_number(taken), place
