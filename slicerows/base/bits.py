"""Words, columns, inputs, names and the numbers of words."""

from slicerows.errors import InvalidInput, InvalidNumber, InvalidOperation, InvalidWord

MAX_BITS = 4000
MAX_LINES = 3
MAX_NAME = 8
MAX_DIGITS = 200

LETTERS = "abcdefghijklmnopqrstuvwxyz"
# The least number with more than MAX_DIGITS digits, in factors because no exponent may be above 64.
TOO_LONG = 10 ** 50 * 10 ** 50 * 10 ** 50 * 10 ** 50


def is_whole(value):
    """Whether a value is an integer: no truth value, and not too long."""
    return isinstance(value, int) and not isinstance(value, bool) and -TOO_LONG < value < TOO_LONG


def is_within(value, low, high):
    """Whether a value is an integer from a low one to a high one."""
    return is_whole(value) and low <= value <= high


def is_ascending(parts):
    """Whether the parts of a tuple, or of a list, are ascending."""
    return all([one < parts[at + 1] for at, one in enumerate(parts[:-1])])


def is_index_set(value, many):
    """Whether a value is an ascending tuple of integers from 0 on that are less than a number."""
    if not isinstance(value, tuple) or not all([is_within(part, 0, many - 1) for part in value]):
        return False
    return is_ascending(value)


def need_number(value, low, high):
    """Raise unless a value is an integer from a low one to a high one."""
    if not is_within(value, low, high):
        raise InvalidNumber(value)


def need_whole(value):
    """Raise unless a value is an integer."""
    if not is_whole(value):
        raise InvalidNumber(value)


def need_word(value):
    """Raise unless a value is a word."""
    if not is_word(value):
        raise InvalidWord("not a word")


def need_column(lines, value):
    """Raise unless a value is a column of so many bits."""
    if not is_column(lines, value):
        raise InvalidWord("not a column of the wanted lines")


def need_words(lines, value):
    """Raise unless a value is an input of so many lines."""
    if not is_input(lines, value):
        raise InvalidInput("not an input of the wanted lines")


def is_word(value):
    """Whether a value is a word."""
    return isinstance(value, str) and len(value) <= MAX_BITS and value.strip("01") == ""


def is_column(lines, value):
    """Whether a value is a column of so many bits."""
    need_number(lines, 1, MAX_LINES)
    return is_word(value) and len(value) == lines


def is_input(lines, value):
    """Whether a value is an input of so many lines."""
    need_number(lines, 1, MAX_LINES)
    return are_words(lines, value)


def are_words(many, value):
    """Whether a value is a tuple of so many words of one length."""
    if not isinstance(value, tuple) or len(value) != many:
        return False
    return all([is_word(word) for word in value]) and all([len(word) == len(value[0]) for word in value])


def is_name(value):
    """Whether a value is a name."""
    return isinstance(value, str) and 1 <= len(value) <= MAX_NAME and value.strip(LETTERS) == ""


def columns(lines):
    """All columns of so many bits, ascending."""
    need_number(lines, 1, MAX_LINES)
    return columns_with(lines)


def columns_with(many):
    """All columns of so many bits, ascending, also of more bits than an input has lines."""
    found = [""]
    for _ in range(many):
        found = [column + bit for column in found for bit in "01"]
    return tuple(found)


def column_sum(factors, column):
    """The sum of the factors at which a column has the bit 1."""
    return sum([factor for factor, bit in zip(factors, column) if bit == "1"])


def columns_of(words):
    """The columns of an input of one to three lines."""
    if not any([is_input(lines, words) for lines in range(1, MAX_LINES + 1)]):
        raise InvalidInput("not an input")
    return columns_in(words)


def columns_in(words):
    """The columns of words of one length, which are not looked at again."""
    return tuple(["".join(bits) for bits in zip(*words)])


def words_of(lines, row_of_columns):
    """The input that has these columns."""
    need_number(lines, 1, MAX_LINES)
    if not isinstance(row_of_columns, tuple) or len(row_of_columns) > MAX_BITS:
        raise InvalidWord("not a tuple of columns")
    for column in row_of_columns:
        need_column(lines, column)
    return words_in(lines, row_of_columns)


def words_in(lines, row_of_columns):
    """The words of columns, which are not looked at again."""
    return tuple(["".join([column[line] for column in row_of_columns]) for line in range(lines)])


def plain(word):
    """The plain number of a word."""
    need_word(word)
    number = 0
    for bit in word[::-1]:
        number = 2 * number + int(bit)
    return number


def signed(word):
    """The signed number of a word."""
    number = plain(word)
    return number - (1 << len(word)) if word.endswith("1") else number


def plain_word(number, width):
    """The word of a width that has a plain number."""
    word = wrapped(number, width)
    if plain(word) != number:
        raise InvalidOperation("no word of this width has this plain number")
    return word


def signed_word(number, width):
    """The word of a width that has a signed number."""
    word = wrapped(number, width)
    if signed(word) != number:
        raise InvalidOperation("no word of this width has this signed number")
    return word


def wrapped(number, width):
    """The word of a width whose plain number is the rest of a number modulo 2 to the power of the width."""
    need_whole(number)
    need_number(width, 0, MAX_BITS)
    # A shift of a negative number goes on with bits 1, as its rest does.
    return "".join([str((number >> at) & 1) for at in range(width)])
