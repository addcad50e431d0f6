"""Words, columns, inputs, names and numbers: 0.1, 0.4, 0.5, 0.7, 0.13, 1.3 and stage 1."""

from slicerows.base import bits
from slicerows.base.bits import columns, columns_of, is_column, is_input, is_name, is_word, plain, plain_word, signed
from slicerows.base.bits import signed_word, words_of, wrapped
from slicerows.errors import InvalidInput, InvalidNumber, InvalidOperation, InvalidWord
from tests.helpers import ADD, KINDS, Checks, all_words, not_columns, not_inputs, not_numbers, not_whole, not_words

LONGEST = 10 ** 200 - 1


def sum_of_bits(word):
    return sum([2 ** at for at, bit in enumerate(word) if bit == "1"])


def signed_sum(word):
    return sum_of_bits(word) - (2 ** len(word) if word[-1:] == "1" else 0)


class Kinds(Checks):
    def test_constants(self):
        self.holds([bits.MAX_BITS, bits.MAX_LINES, bits.MAX_NAME, bits.MAX_DIGITS], [4000, 3, 8, 200])

    def test_words(self):
        for word in ("", "0", "1", "01", "1" * 4000, "01" * 2000):
            self.judges(is_word, word, True)
        for value in not_words():
            self.judges(is_word, value, False)

    def test_columns_are_told_by_lines(self):
        for lines in (1, 2, 3):
            for column in columns(lines):
                self.judges(lambda value, lines=lines: is_column(lines, value), column, True)
            for value in not_columns(lines):
                self.judges(lambda value, lines=lines: is_column(lines, value), value, False)

    def test_inputs(self):
        for lines in (1, 2, 3):
            for width in (0, 1, 2, 4000):
                self.judges(lambda value, lines=lines: is_input(lines, value), ("1" * width,) * lines, True)
            for value in not_inputs(lines):
                self.judges(lambda value, lines=lines: is_input(lines, value), value, False)

    def test_words_of_an_input_have_one_length(self):
        self.assertIs(is_input(2, ("01", "1")), False)
        self.assertIs(is_input(3, ("0", "0", "")), False)
        self.assertIs(is_input(3, ("", "", "")), True)

    def test_names(self):
        for name in ("a", "z", "sum", "abcdefgh"):
            self.judges(is_name, name, True)
        for value in [value for value in KINDS if value != "x"] + ["A", "a1", "a_b", "abcdefghi", "a\n", " a", ("a",)]:
            self.judges(is_name, value, False)

    def test_lines_are_one_to_three(self):
        for call in (is_column, is_input):
            for wrong in not_numbers(1, 3):
                self.refuses((InvalidNumber, wrong), call, wrong, "0")
                self.refuses((InvalidNumber, wrong), call, wrong, None)
        for wrong in not_numbers(1, 3):
            self.refuses((InvalidNumber, wrong), columns, wrong)


class Columns(Checks):
    def test_columns_ascend(self):
        self.holds(columns(1), ("0", "1"))
        self.holds(columns(2), ("00", "01", "10", "11"))
        self.holds(columns(3), ("000", "001", "010", "011", "100", "101", "110", "111"))

    def test_columns_of_an_input(self):
        self.holds(columns_of(("011", "001")), ("00", "10", "11"))
        self.holds(columns_of(("01",)), ("0", "1"))
        self.holds(columns_of(("01", "11", "10")), ("011", "110"))
        self.holds([columns_of(("",) * lines) for lines in (1, 2, 3)], [(), (), ()])
        self.holds(columns_of(("01" * 2000, "1" * 4000))[-2:], ("01", "11"))

    def test_columns_of_what_is_no_input(self):
        for value in set_of_three(not_inputs(1), not_inputs(2), not_inputs(3)):
            self.refuses(InvalidInput, columns_of, value)
        self.refuses(InvalidInput, columns_of, ("0",) * 4)
        self.refuses(InvalidInput, columns_of, ("0", "00"))

    def test_words_of_columns(self):
        self.holds(words_of(2, ("00", "10", "11")), ("011", "001"))
        self.holds([words_of(lines, ()) for lines in (1, 2, 3)], [("",), ("", ""), ("", "", "")])
        self.holds(words_of(1, ("0",) * 4000), ("0" * 4000,))
        for lines in (1, 2, 3):
            for width in (0, 1, 2):
                for words in all_words(lines, width):
                    self.holds(words_of(lines, columns_of(words)), words)

    def test_words_of_what_are_no_columns(self):
        wrong = [value for value in KINDS if value != ()]
        wrong += ["00", ["00"], ("0",), ("00", "0"), ("00", "000"), ("02",), (None,), (0,), ("00",) * 4001, {"00": 1}]
        self.checks_in_order(words_of, (2, InvalidNumber, not_numbers(1, 3)), (("00", "11"), InvalidWord, wrong))


def set_of_three(*lists):
    """The values that are in all lists, as what is no input of any number of lines."""
    return [value for value in lists[0] if all([repr(value) in [repr(other) for other in more] for more in lists])]


class Numbers(Checks):
    def test_plain_and_signed(self):
        for width in range(9):
            for (word,) in all_words(1, width):
                self.holds([plain(word), signed(word)], [sum_of_bits(word), signed_sum(word)])

    def test_the_word_of_width_0(self):
        self.holds([plain(""), signed(""), plain_word(0, 0), signed_word(0, 0), wrapped(5, 0)], [0, 0, "", "", ""])

    def test_words_of_4000_bits(self):
        self.holds([plain("1" * 4000), signed("1" * 4000)], [2 ** 4000 - 1, -1])
        self.holds([plain("0" * 3999 + "1"), signed("0" * 3999 + "1")], [2 ** 3999, -2 ** 3999])

    def test_no_words(self):
        for wrong in not_words():
            self.refuses(InvalidWord, plain, wrong)
            self.refuses(InvalidWord, signed, wrong)

    def test_words_come_back(self):
        for width in range(7):
            for (word,) in all_words(1, width):
                self.holds([plain_word(sum_of_bits(word), width), signed_word(signed_sum(word), width)], [word, word])

    def test_plain_words_are_there_from_0_on(self):
        for width in (0, 1, 2, 63, 64, 600):
            for number in (-1, -2 ** width, 2 ** width, 2 ** width + 1, LONGEST, -LONGEST):
                if not 0 <= number < 2 ** width:
                    self.refuses(InvalidOperation, plain_word, number, width)
            self.holds(sum_of_bits(plain_word(2 ** width - 1, width)), 2 ** width - 1)

    def test_signed_words_have_two_bounds(self):
        for width in (1, 2, 3, 64, 600):
            half = 2 ** (width - 1)
            for number in (-half - 1, half, half + 1, -2 * half):
                self.refuses(InvalidOperation, signed_word, number, width)
            for number in (-half, half - 1, -1, 0):
                self.holds(signed_sum(signed_word(number, width)), number)
        for number in (-1, 1):
            self.refuses(InvalidOperation, signed_word, number, 0)

    def test_wrapped_is_the_rest(self):
        for width in (0, 1, 2, 5, 64):
            for number in (0, 1, -1, 2 ** width, 2 ** width - 1, 2 ** width + 1, -2 ** width - 1, 77, LONGEST, -LONGEST):
                word = wrapped(number, width)
                self.holds([len(word), sum_of_bits(word)], [width, number % 2 ** width])

    def test_long_numbers_and_widths(self):
        for number in (LONGEST, 0, 1):
            self.holds(sum_of_bits(plain_word(number, 4000)), number)
            self.holds(signed_sum(signed_word(-number, 4000)), -number)
            self.holds(len(wrapped(-number, 4000)), 4000)
        self.holds(wrapped(-1, 4000), "1" * 4000)

    def test_wrong_numbers_and_widths(self):
        for call in (plain_word, signed_word, wrapped):
            self.checks_in_order(call, (0, InvalidNumber, not_whole()), (3, InvalidNumber, not_numbers(0, 4000)))

    def test_a_wrong_width_is_told_ahead_of_a_missing_word(self):
        self.refuses((InvalidNumber, 4001), plain_word, -1, 4001)
        self.refuses((InvalidNumber, True), signed_word, 5, True)
        self.refuses((InvalidNumber, ADD), plain_word, ADD, None)
