"""Messages as numbers: symbols are pushed on a number and popped from it."""

from kraftroom.errors import Truncated

WORD_BITS = 8
LEAST_STATE = 1 << 16
STATE_END = 1 << 24


def push(low, weight, total, number):
    """Return the number after a symbol with this low, weight and total was pushed on it."""
    return (number // weight) * total + low + number % weight


def pop(model, number):
    """Return the symbol that is popped from a number, and the number that remains, for the model as it is."""
    total = model.total()
    rest = number % total
    symbol = model.symbol_at(rest)
    return symbol, model.weight(symbol) * (number // total) + rest - model.low(symbol)


def shares(model, message):
    """Return the list of (low, weight, total) that a fresh model has for each symbol of a message."""
    teller = model.fresh()
    found = []
    for symbol in message:
        found.append((teller.low(symbol), teller.weight(symbol), teller.total()))
        teller.learn(symbol)
    return found


def pack(model, message, number):
    """Return the number after a message was packed on it."""
    packed = number
    # What is pushed last is popped first, so the last symbol goes first.
    for low, weight, total in reversed(shares(model, message)):
        packed = push(low, weight, total, packed)
    return packed


def unpack(model, number, count):
    """Return the message of `count` symbols that is unpacked from a number, and the number that remains."""
    teller = model.fresh()
    rest = number
    message = []
    for _ in range(count):
        symbol, rest = pop(teller, rest)
        teller.learn(symbol)
        message.append(symbol)
    return message, rest


def pack_words(model, message):
    """Return the state and the list of the words into which a message is packed."""
    state = LEAST_STATE
    found = []
    for low, weight, total in reversed(shares(model, message)):
        # With an end of 0, as a total beyond the states has it, the shifting would go on for ever.
        end = max(1, (STATE_END // total) * weight)
        while state >= end:
            found.append(state & ((1 << WORD_BITS) - 1))
            state = state >> WORD_BITS
        state = push(low, weight, total, state)
    return state, found[::-1]


def refill(state, words, used):
    """Return the state with as many further words as it needs, and the number of words that are used then."""
    full = state
    count = used
    while full < LEAST_STATE:
        if count >= len(words):
            raise Truncated(len(words))
        full = (full << WORD_BITS) + words[count]
        count += 1
    return full, count


def unpack_words(model, state, words, count):
    """Return the message of `count` symbols, the state at the end, and the number of words that were used."""
    teller = model.fresh()
    rest = state
    used = 0
    message = []
    for _ in range(count):
        symbol, rest = pop(teller, rest)
        rest, used = refill(rest, words, used)
        teller.learn(symbol)
        message.append(symbol)
    return message, rest, used
