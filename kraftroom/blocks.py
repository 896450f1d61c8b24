"""Blocks: short messages, each written in the form with the fewest bits."""

from kraftroom.errors import InvalidBlock, Undecided
from kraftroom.fields import field_bits, read_bits, read_field
from kraftroom.integers import gamma_bits, read_gamma
from kraftroom.intervals import decode_message, encode_message
from kraftroom.least import least_lengths
from kraftroom.models import Counts, Learner
from kraftroom.prefix import is_code, read_symbols, write_symbols

LONGEST_BLOCK = 300
FORM_WIDTH = 2
LENGTH_WIDTH = 4
LONGEST_WORD = 15
STEP = 8
LIMIT = 1000


def symbol_width(size):
    """Return the width of an alphabet."""
    return (size - 1).bit_length()


def block_counts(size, block):
    """Return the list of how often each symbol occurs in a block."""
    counts = [0] * size
    for symbol in block:
        counts[symbol] += 1
    return counts


def block_lengths(counts):
    """Return the lengths of the code in which a block with these counts is written."""
    occurring = [symbol for symbol, count in enumerate(counts) if count > 0]
    lengths = [0] * len(counts)
    # A code of least cost is only defined for two or more symbols.
    if len(occurring) == 1:
        lengths[occurring[0]] = 1
        return lengths
    found = least_lengths([counts[symbol] for symbol in occurring], LONGEST_WORD)
    for symbol, length in zip(occurring, found):
        lengths[symbol] = length
    return lengths


def model_bits(model, block):
    """Return the code of a block for a model, behind the number of its bits."""
    code = encode_message(model, block)
    return gamma_bits(len(code) + 1) + code


def field_body(size, block):
    """Return the body of a block in form 0: fields."""
    width = symbol_width(size)
    return [bit for symbol in block for bit in field_bits(symbol, width)]


def prefix_body(size, block):
    """Return the body of a block in form 1: a prefix code."""
    lengths = block_lengths(block_counts(size, block))
    told = [bit for length in lengths for bit in field_bits(length, LENGTH_WIDTH)]
    return told + write_symbols(lengths, block)


def counts_body(size, block):
    """Return the body of a block in form 2: a fraction, by the counts."""
    counts = block_counts(size, block)
    told = [bit for count in counts for bit in gamma_bits(count + 1)]
    return told + model_bits(Counts(counts), block)


def learner_body(size, block):
    """Return the body of a block in form 3: a fraction, by what was learned."""
    return model_bits(Learner(size, STEP, LIMIT), block)


BODIES = (field_body, prefix_body, counts_body, learner_body)


def body(size, block, form):
    """Return the bits of the body of a block in a form."""
    make = BODIES[form]
    return make(size, block)


def write_block(size, block):
    """Return the bits of a block."""
    start = gamma_bits(len(block) + 1)
    if not block:
        return start + field_bits(0, FORM_WIDTH)
    bodies = [body(size, block, form) for form in range(len(BODIES))]
    counts = [len(bits) for bits in bodies]
    form = counts.index(min(counts))
    return start + field_bits(form, FORM_WIDTH) + bodies[form]


def read_model(model, bits, at, count):
    """Return the block of `count` symbols whose code for a model stands at a place, and the place behind it."""
    told, place = read_gamma(bits, at)
    code, behind = read_bits(bits, place, told - 1)
    try:
        return decode_message(model, code, count), behind
    except Undecided:
        raise InvalidBlock(place) from None


def read_field_body(size, bits, at, count):
    """Return the block of `count` symbols whose body in form 0 stands at a place, and the place behind it."""
    width = symbol_width(size)
    block = []
    place = at
    for _ in range(count):
        symbol, behind = read_field(bits, place, width)
        if symbol >= size:
            raise InvalidBlock(place)
        block.append(symbol)
        place = behind
    return block, place


def read_prefix_body(size, bits, at, count):
    """Return the block of `count` symbols whose body in form 1 stands at a place, and the place behind it."""
    lengths = []
    place = at
    for _ in range(size):
        length, place = read_field(bits, place, LENGTH_WIDTH)
        lengths.append(length)
    if not is_code(lengths):
        raise InvalidBlock(at)
    return read_symbols(lengths, bits, place, count)


def read_counts_body(size, bits, at, count):
    """Return the block of `count` symbols whose body in form 2 stands at a place, and the place behind it."""
    counts = []
    place = at
    for _ in range(size):
        told, place = read_gamma(bits, place)
        counts.append(told - 1)
    if sum(counts) != count:
        raise InvalidBlock(at)
    return read_model(Counts(counts), bits, place, count)


def read_learner_body(size, bits, at, count):
    """Return the block of `count` symbols whose body in form 3 stands at a place, and the place behind it."""
    return read_model(Learner(size, STEP, LIMIT), bits, at, count)


READERS = (read_field_body, read_prefix_body, read_counts_body, read_learner_body)


def read_block(size, bits, at):
    """Return the block that stands at a place, and the place behind it."""
    told, place = read_gamma(bits, at)
    count = told - 1
    if count > LONGEST_BLOCK:
        raise InvalidBlock(at)
    form, behind = read_field(bits, place, FORM_WIDTH)
    if form != 0 and count == 0:
        raise InvalidBlock(place)
    read = READERS[form]
    return read(size, bits, behind, count)
