"""Slow answers about codes of integers, blocks and archives that follow the words of the document."""

from fractions import Fraction

from tests import reference


class Fault(Exception):
    """What reading raises: the name of the error and its place."""

    def __init__(self, name, place):
        Exception.__init__(self, name, place)
        self.name = name
        self.place = place


def bits_of(text):
    """The bits that a text of 0 and 1 shows; blanks only part it."""
    return [int(sign) for sign in text if sign != " "]


def gamma(n):
    text = format(n, "b")
    return bits_of("0" * (len(text) - 1) + text)


def delta(n):
    text = format(n, "b")
    return gamma(len(text)) + bits_of(text[1:])


def rice(k, n):
    return bits_of("1" * (n // 2 ** k) + "0" + (format(n % 2 ** k, f"0{k}b") if k else ""))


def fibonacci_up_to(n):
    found = [1, 2]
    while found[-1] <= n:
        found.append(found[-1] + found[-2])
    return found


def fibonacci(n):
    terms = fibonacci_up_to(n)
    rest = n
    used = set()
    while rest:
        greatest = max(at for at, term in enumerate(terms) if term <= rest)
        used.add(greatest)
        rest -= terms[greatest]
    return [1 if at in used else 0 for at in range(max(used) + 1)] + [1]


class Cursor:
    """Reads bits one by one, from a place on."""

    def __init__(self, bits, at):
        self.bits = bits
        self.at = at

    def bit(self):
        if self.at == len(self.bits):
            raise Fault("Truncated", len(self.bits))
        self.at += 1
        return self.bits[self.at - 1]

    def number(self, width, text=""):
        for _ in range(width):
            text += str(self.bit())
        return int(text, 2) if text else 0

    def gamma(self):
        begin = self.at
        zeros = 0
        while self.bit() == 0:
            zeros += 1
            if zeros > 40:
                raise Fault("InvalidWord", begin)
        return self.number(zeros, "1")

    def delta(self):
        begin = self.at
        count = self.gamma()
        if count > 40:
            raise Fault("InvalidWord", begin)
        return self.number(count - 1, "1")

    def rice(self, k):
        ones = 0
        while self.bit() == 1:
            ones += 1
        return ones * 2 ** k + self.number(k)

    def fibonacci(self):
        taken = [self.bit(), self.bit()]
        while taken[-2:] != [1, 1]:
            taken.append(self.bit())
        terms = [1, 2]
        while len(terms) < len(taken):
            terms.append(terms[-1] + terms[-2])
        return sum(term for bit, term in zip(taken[:-1], terms) if bit)

    def rest(self, count):
        """So many bits, which are counted before they are read."""
        if len(self.bits) - self.at < count:
            raise Fault("Truncated", len(self.bits))
        self.at += count
        return self.bits[self.at - count:self.at]


def answer(read, *arguments):
    """What a function gives, or (name of the error, its place)."""
    try:
        return read(*arguments)
    except Fault as fault:
        return fault.name, fault.place


def read_integer(name, bits, at, *more):
    """What reading an integer gives: (integer, place), or (name of the error, its place)."""
    cursor = Cursor(bits, at)
    try:
        return getattr(cursor, name)(*more), cursor.at
    except Fault as fault:
        return fault.name, fault.place


def decoding(told, bits, count):
    """What decoding gives, as reference.decoding tells it, but for long messages."""
    begin = sum((Fraction(bit, 2 ** at) for at, bit in enumerate(bits, 1)), Fraction(0))
    end = begin + Fraction(1, 2 ** len(bits))
    message = []
    low, width = Fraction(0), Fraction(1)
    while len(message) < count:
        weights = told.after(message)
        total = sum(weights)
        for symbol, weight in enumerate(weights):
            part = low + width * Fraction(sum(weights[:symbol]), total)
            if part <= begin and end <= part + width * Fraction(weight, total):
                low, width = part, width * Fraction(weight, total)
                message.append(symbol)
                break
        else:
            return "Undecided", len(message)
    return message


def width_of(size):
    return len(format(size - 1, "b"))


def lengths_of(counts):
    """The lengths of form 1."""
    occurring = [symbol for symbol, count in enumerate(counts) if count]
    if len(occurring) == 1:
        return [1 if count else 0 for count in counts]
    given = dict(zip(occurring, reference.chosen_lengths_of_many([counts[symbol] for symbol in occurring], 15)))
    return [given.get(symbol, 0) for symbol in range(len(counts))]


def counts_of(size, block):
    return [block.count(symbol) for symbol in range(size)]


def code_in(told, block):
    """The code of a block, behind the number of its bits."""
    code = reference.code_of(reference.part_of(told, block))
    return gamma(len(code) + 1) + code


def body_of(size, block, form):
    """The body of a block in a form."""
    counts = counts_of(size, block)
    if form == 0:
        return bits_of("".join(format(symbol, f"0{width_of(size)}b") for symbol in block))
    if form == 1:
        lengths = lengths_of(counts)
        table = reference.code_words(lengths)
        return bits_of("".join(format(length, "04b") for length in lengths)) + sum((table[s] for s in block), [])
    if form == 2:
        return sum((gamma(count + 1) for count in counts), []) + code_in(reference.FixedWeights(counts), block)
    return code_in(reference.LearnedWeights(size, 8, 1000), block)


def block_in(size, block, form):
    """The bits of a block in any form, whether it is the shortest one or not."""
    return gamma(len(block) + 1) + bits_of(format(form, "02b")) + body_of(size, block, form)


def block_of(size, block):
    """The bits of a block, as it is written."""
    if not block:
        return bits_of("1 00")
    return min((block_in(size, block, form) for form in range(4)), key=len)


def read_coded(cursor, told, length):
    count = cursor.gamma() - 1
    code = cursor.rest(count)
    message = decoding(told, code, length)
    if isinstance(message, tuple):
        raise Fault("InvalidBlock", cursor.at - len(code))
    return message


def read_in_form(cursor, size, form, length):
    begin = cursor.at
    if form == 0:
        block = []
        for _ in range(length):
            place = cursor.at
            block.append(cursor.number(width_of(size)))
            if block[-1] >= size:
                raise Fault("InvalidBlock", place)
        return block
    if form == 1:
        lengths = [cursor.number(4) for _ in range(size)]
        if not reference.belongs_to_code(lengths):
            raise Fault("InvalidBlock", begin)
        table = words_of(lengths)
        return [read_word(cursor, table) for _ in range(length)]
    if form == 2:
        counts = [cursor.gamma() - 1 for _ in range(size)]
        if sum(counts) != length:
            raise Fault("InvalidBlock", begin)
        return read_coded(cursor, reference.FixedWeights(counts), length)
    return read_coded(cursor, reference.LearnedWeights(size, 8, 1000), length)


def words_of(lengths):
    """The words of a code as texts: each symbol in turn begins where the words so far end."""
    found = {}
    taken = Fraction(0)
    for length, symbol in sorted((length, symbol) for symbol, length in enumerate(lengths) if length):
        found[format(int(taken * 2 ** length), f"0{length}b")] = symbol
        taken += Fraction(1, 2 ** length)
    return found


def read_word(cursor, table):
    begin = cursor.at
    text = ""
    while text not in table:
        text += str(cursor.bit())
        if not any(word.startswith(text) for word in table):
            raise Fault("InvalidWord", begin)
    return table[text]


def read_block_by(cursor, size):
    begin = cursor.at
    length = cursor.gamma() - 1
    if length > 300:
        raise Fault("InvalidBlock", begin)
    place = cursor.at
    form = cursor.number(2)
    if form and not length:
        raise Fault("InvalidBlock", place)
    return read_in_form(cursor, size, form, length)


def read_block(size, bits, at):
    """The block at a place, and the place behind it."""
    cursor = Cursor(bits, at)
    return read_block_by(cursor, size), cursor.at


def parts_of(chunk, message):
    """The blocks of a message."""
    parts = []
    for at, symbol in enumerate(message):
        if at % chunk == 0:
            parts.append([])
        parts[-1].append(symbol)
    return parts


def archive_of(size, chunk, message):
    """The bits of an archive."""
    blocks = [block_of(size, part) for part in parts_of(chunk, message)]
    return archive_with(len(message), chunk, blocks)


def archive_with(length, chunk, blocks):
    """The bits of an archive that tells this length and chunk, whatever its blocks are."""
    return gamma(length + 1) + gamma(chunk) + sum((gamma(len(bits)) for bits in blocks), []) + sum(blocks, [])


def open_archive(bits):
    """The length, the chunk, and the places of an archive."""
    cursor = Cursor(bits, 0)
    length = cursor.gamma() - 1
    if length > 3000:
        raise Fault("InvalidBlock", 0)
    place = cursor.at
    chunk = cursor.gamma()
    if chunk > 300:
        raise Fault("InvalidBlock", place)
    counts = [cursor.gamma() for _ in range(-(-length // chunk))]
    if cursor.at + sum(counts) > len(bits):
        raise Fault("Truncated", len(bits))
    return length, chunk, [cursor.at + sum(counts[:at]) for at in range(len(counts) + 1)]


def read_part(size, bits, number):
    """The block with a number of an archive."""
    length, chunk, places = open_archive(bits)
    block, end = read_block(size, bits[:places[number + 1]], places[number])
    if end != places[number + 1] or len(block) != min(chunk, length - chunk * number):
        raise Fault("InvalidBlock", places[number])
    return block


def read_archive(size, bits):
    """The message of an archive."""
    return [symbol for number in range(len(open_archive(bits)[2]) - 1) for symbol in read_part(size, bits, number)]


def read_symbol(size, bits, index):
    """The symbol with an index of an archive."""
    length, chunk, _ = open_archive(bits)
    return read_part(size, bits, index // chunk)[index % chunk] if index < length else None
