"""Archives: messages in blocks that can be read one by one."""

from kraftroom.blocks import read_block, write_block
from kraftroom.errors import InvalidBlock, Truncated
from kraftroom.integers import gamma_bits, read_gamma

LONGEST_MESSAGE = 3000
LONGEST_CHUNK = 300


def write_archive(size, chunk, message):
    """Return the bits of the archive of a message."""
    # No archive has a chunk below 1: it has no gamma code, and the blocks would not come to an end.
    step = max(1, chunk)
    blocks = [write_block(size, message[start:start + step]) for start in range(0, len(message), step)]
    bits = gamma_bits(len(message) + 1) + gamma_bits(step)
    for block in blocks:
        bits.extend(gamma_bits(len(block)))
    for block in blocks:
        bits.extend(block)
    return bits


def read_head(bits):
    """Return the length of the message, the chunk, and the place behind them."""
    told, place = read_gamma(bits, 0)
    length = told - 1
    if length > LONGEST_MESSAGE:
        raise InvalidBlock(0)
    chunk, behind = read_gamma(bits, place)
    if chunk > LONGEST_CHUNK:
        raise InvalidBlock(place)
    return length, chunk, behind


def open_archive(bits):
    """Return the length of the message, the chunk, and the places of the blocks and behind the last one."""
    length, chunk, place = read_head(bits)
    counts = []
    for _ in range(0, length, chunk):
        count, place = read_gamma(bits, place)
        counts.append(count)
    places = [place]
    for count in counts:
        places.append(places[-1] + count)
    if places[-1] > len(bits):
        raise Truncated(len(bits))
    return length, chunk, places


def read_numbered(size, bits, opened, number):
    """Return the block with a number, from 0, of an archive that was opened."""
    length, chunk, places = opened
    start, end = places[number], places[number + 1]
    # The bits are cut off, so that nothing of the next block can be read.
    block, behind = read_block(size, bits[:end], start)
    if behind != end or len(block) != min(chunk, length - number * chunk):
        raise InvalidBlock(start)
    return block


def read_archive(size, bits):
    """Return the message of an archive."""
    opened = open_archive(bits)
    message = []
    for number in range(len(opened[2]) - 1):
        message.extend(read_numbered(size, bits, opened, number))
    return message


def read_symbol(size, bits, index):
    """Return the symbol with an index, or None if the message has no symbol with that index."""
    opened = open_archive(bits)
    length, chunk, _ = opened
    if not 0 <= index < length:
        return None
    block = read_numbered(size, bits, opened, index // chunk)
    return block[index % chunk]
