"""Messages as fractions: intervals, and the shortest bits within them."""

from kraftroom.errors import Undecided
from kraftroom.fields import bits_number, field_bits

EMPTY = (0, 1, 1)


def narrowed(span, model, symbol):
    """Return the interval of a message with one more symbol, for the model as it is."""
    low, width, whole = span
    total = model.total()
    return low * total + width * model.low(symbol), width * model.weight(symbol), whole * total


def interval(model, message):
    """Return the interval of a message, a triple (low, width, whole)."""
    teller = model.fresh()
    span = EMPTY
    for symbol in message:
        span = narrowed(span, teller, symbol)
        teller.learn(symbol)
    return span


def least_exponent(width, whole):
    """Return the least integer from 0 by which the width is shifted to be not less than the whole."""
    if width >= whole:
        return 0
    # Shifted so, the width has as many bits as the whole; one bit less is too little.
    exponent = whole.bit_length() - width.bit_length()
    if width << exponent >= whole:
        return exponent
    return exponent + 1


def holds(span, number, count):
    """Return True if an interval contains all fractions of the bits of a number."""
    low, width, whole = span
    return (low << count) <= number * whole and (number + 1) * whole <= ((low + width) << count)


def first_number(span, count):
    """Return the least number of so many bits whose fractions do not begin below an interval."""
    low, _, whole = span
    return ((low << count) + whole - 1) // whole


def encode_message(model, message):
    """Return the code of a message."""
    span = interval(model, message)
    count = least_exponent(span[1], span[2])
    # Fewer bits stand for more fractions than there are in the interval, and
    # with one bit more there is always a number that fits.
    if not holds(span, first_number(span, count), count):
        count += 1
    return field_bits(first_number(span, count), count)


def symbol_of(span, model, number, count):
    """Return the symbol to whose part of an interval the least fraction of the bits belongs."""
    low, width, whole = span
    return model.symbol_at((number * whole - (low << count)) * model.total() // (width << count))


def decode_message(model, bits, count):
    """Return the message of `count` symbols whose interval contains all fractions of the bits."""
    teller = model.fresh()
    number = bits_number(bits)
    span = EMPTY
    message = []
    for _ in range(count):
        symbol = symbol_of(span, teller, number, len(bits))
        span = narrowed(span, teller, symbol)
        if not holds(span, number, len(bits)):
            raise Undecided(len(message))
        teller.learn(symbol)
        message.append(symbol)
    return message
