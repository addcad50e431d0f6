"""Ready rows, each the least one with its outputs."""

from slicerows.base.bits import MAX_LINES, column_sum, columns, is_within, is_word, need_number
from slicerows.errors import InvalidOperation, InvalidWord
from slicerows.judge.least import least_row
from slicerows.rows.rows import Row

MAX_TIMES = 8


def one_way(on, out):
    """The least row from the left whose cell hands on, and makes, what is told for each signal and column."""
    back = ((0,) * len(on[0]),)
    return least_row(Row(on, back, tuple([(line,) for line in out])))


def by_column(outputs):
    """The least row that makes an output column for each column, whatever the signals are."""
    return one_way(((0,) * len(outputs),), (tuple(outputs),))


def by_sum(factors, signals, sign):
    """The least row whose output word is the sum of the factors times the numbers of the words.

    The signal, with its sign, is what the columns ahead have left over.
    """
    told = columns(len(factors))
    on = []
    out = []
    for signal in range(signals):
        sums = [sign * signal + column_sum(factors, column) for column in told]
        on.append(tuple([sign * (total >> 1) for total in sums]))
        out.append(tuple([str(total & 1) for total in sums]))
    return one_way(tuple(on), tuple(out))


def copied(lines):
    """The row whose outputs are the inputs."""
    return by_column(columns(lines))


def picked(lines, order):
    """The row whose output lines are the lines with the indices of an order."""
    need_number(lines, 1, MAX_LINES)
    if not isinstance(order, tuple) or not 1 <= len(order) <= MAX_LINES:
        raise InvalidOperation("not an order of one to three lines")
    if not all([is_within(line, 0, lines - 1) for line in order]):
        raise InvalidOperation("not an order of lines")
    return by_column(["".join([column[line] for line in order]) for column in columns(lines)])


def gate(lines, bits):
    """The row whose output bit is told for each column."""
    need_number(lines, 1, MAX_LINES)
    if not is_word(bits) or len(bits) != len(columns(lines)):
        raise InvalidWord("not a word with a bit for each column")
    return by_column(list(bits))


def added():
    """The row that adds two numbers."""
    return by_sum((1, 1), 2, 1)


def subtracted():
    """The row that takes the second number from the first one."""
    return by_sum((1, -1), 2, -1)


def negated():
    """The row that makes the opposite number."""
    return by_sum((-1,), 2, -1)


def times(number):
    """The row that multiplies by a number."""
    need_number(number, 1, MAX_TIMES)
    return by_sum((number,), number, 1)


def greater():
    """The row that tells whether the first number, up to each bit, is greater than the second one."""
    return one_way(((0, 0, 1, 0), (1, 0, 1, 1)), (("0", "0", "1", "0"), ("1", "0", "1", "1")))


def later(bit):
    """The row that makes the bit ahead, and first a bit that is told."""
    if not is_word(bit) or len(bit) != 1:
        raise InvalidWord("not a word with one bit")
    # The first signal is 0, so it stands for the told bit.
    on = (0, 1) if bit == "0" else (1, 0)
    other = "1" if bit == "0" else "0"
    return one_way((on, on), ((bit, bit), (other, other)))


def sooner(bit):
    """The row that makes the bit behind, and last a bit that is told."""
    return least_row(~later(bit))


def lowest():
    """The row that marks the least index of a bit 1."""
    return one_way(((0, 1), (1, 1)), (("0", "1"), ("0", "0")))


def highest():
    """The row that marks the greatest index of a bit 1."""
    return least_row(~lowest())


def filled():
    """The row that marks all indices up to the greatest one of a bit 1."""
    return least_row(~one_way(((0, 1), (1, 1)), (("0", "1"), ("1", "1"))))


def parity():
    """The row that tells at each index whether the number of all bits 1 is odd."""
    even, odd = ("0", "1"), ("1", "0")
    turned = ((0, 1), (1, 0))
    return least_row(Row(turned, turned, ((even, odd), (odd, even))))


def last():
    """The row that makes the last bit at each index."""
    # The signal 0 says that the cell is the last one; 1 and 2 tell the last bit 0 and 1.
    back = ((1, 2), (1, 1), (2, 2))
    return least_row(Row(((0, 0),), back, ((("0", "1"), ("0", "0"), ("1", "1")),)))
