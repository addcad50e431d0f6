"""Ready rows: 0.4, 1.3 and stage 3."""

from slicerows.base.bits import columns
from slicerows.errors import InvalidNumber, InvalidOperation, InvalidWord
from slicerows.judge.least import is_least
from slicerows.rows import ready
from slicerows.rows.ready import added, copied, filled, gate, greater, highest, last, later, lowest, negated, parity
from slicerows.rows.ready import picked, sooner, subtracted, times
from slicerows.rows.rows import Row
from tests.helpers import KINDS, Checks, all_words, cell_columns, not_numbers, not_words


def number(word):
    return sum([2 ** at for at, bit in enumerate(word) if bit == "1"])


def word_of(value, width):
    return "".join([str(value // 2 ** at % 2) for at in range(width)])


def sums(make):
    """The output that tells a number for the numbers of the words."""
    return lambda words: (word_of(make(*[number(word) for word in words]), len(words[0])),)


def marks(make):
    """The output of one line whose bit at each index is told."""
    return lambda words: ("".join([str(int(make(words, at))) for at in range(len(words[0]))]),)


def is_greater(words, at):
    return number(words[0][:at + 1]) > number(words[1][:at + 1])


READY = (
    (added(), sums(lambda one, other: one + other), 2, 1),
    (subtracted(), sums(lambda one, other: one - other), 2, 1),
    (negated(), sums(lambda one: -one), 2, 1),
    (greater(), marks(is_greater), 2, 1),
    (later("0"), lambda words: (("0" + words[0])[:len(words[0])],), 2, 1),
    (later("1"), lambda words: (("1" + words[0])[:len(words[0])],), 2, 1),
    (sooner("0"), lambda words: ((words[0] + "0")[1:],) if words[0] else ("",), 1, 2),
    (sooner("1"), lambda words: ((words[0] + "1")[1:],) if words[0] else ("",), 1, 2),
    (lowest(), marks(lambda words, at: words[0].find("1") == at), 2, 1),
    (highest(), marks(lambda words, at: words[0].rfind("1") == at), 1, 2),
    (filled(), marks(lambda words, at: at <= words[0].rfind("1")), 1, 2),
    (parity(), marks(lambda words, at: words[0].count("1") % 2), 2, 2),
    (last(), lambda words: (words[0][-1:] * len(words[0]),), 1, 3),
)


class Ready(Checks):
    def check_outputs(self, row, wanted):
        self.assertIs(type(row), Row)
        self.assertIs(is_least(row), True)
        for width in range(7 if row.inputs == 1 else 5 if row.inputs == 2 else 3):
            for words in all_words(row.inputs, width):
                self.holds(row(words), wanted(words))

    def test_rows_without_arguments_and_with_a_bit(self):
        for row, wanted, lefts, rights in READY:
            self.check_outputs(row, wanted)
            self.holds([row.lefts, row.rights], [lefts, rights])

    def test_long_numbers(self):
        one, other = word_of(3 ** 2000, 4000), word_of(7 ** 1300, 4000)
        self.holds(number(added()((one, other))[0]), (3 ** 2000 + 7 ** 1300) % 2 ** 4000)
        self.holds(number(subtracted()((one, other))[0]), (3 ** 2000 - 7 ** 1300) % 2 ** 4000)
        self.holds(number(times(7)((one,))[0]), 7 * 3 ** 2000 % 2 ** 4000)

    def test_copied(self):
        for lines in (1, 2, 3):
            row = copied(lines)
            self.check_outputs(row, lambda words: words)
            self.holds([row.inputs, row.outputs, row.lefts, row.rights], [lines, lines, 1, 1])

    def test_picked(self):
        for lines, order in ((1, (0,)), (1, (0, 0)), (2, (1, 0, 1)), (2, (1,)), (3, (2, 0, 1)), (3, (1, 1))):
            row = picked(lines, order)
            self.check_outputs(row, lambda words, order=order: tuple([words[line] for line in order]))
            self.holds([row.inputs, row.outputs, row.lefts, row.rights], [lines, len(order), 1, 1])

    def test_gates(self):
        for lines, bits in ((1, "00"), (1, "01"), (1, "10"), (2, "0110"), (2, "0001"), (3, "00010111"), (3, "01101001")):
            table = dict(zip(columns(lines), bits))
            row = gate(lines, bits)
            self.check_outputs(row, lambda words, table=table: ("".join([table[at] for at in cell_columns(words)]),))
            self.holds([row.inputs, row.outputs, row.lefts, row.rights], [lines, 1, 1, 1])

    def test_times(self):
        for factor in range(1, 9):
            row = times(factor)
            self.check_outputs(row, sums(lambda one, factor=factor: factor * one))
            self.holds([row.lefts, row.rights], [factor, 1])

    def test_signals_are_numbered_by_first_ways(self):
        self.holds(later("1").on, ((1, 0), (1, 0)))
        self.holds(later("1").out, ((("1", "1"),), (("0", "0"),)))
        self.holds(last().back, ((1, 2), (1, 1), (2, 2)))
        self.holds(added().on, ((0, 0, 0, 1), (0, 1, 1, 1)))
        self.holds(times(3).on, ((0, 1), (0, 2), (1, 2)))

    def test_each_call_makes_an_equal_row(self):
        for name in ("added", "subtracted", "negated", "greater", "lowest", "highest", "filled", "parity", "last"):
            make = getattr(ready, name)
            self.assertTrue(make() == make())

    def test_wrong_lines(self):
        for wrong in not_numbers(1, 3):
            self.refuses((InvalidNumber, wrong), copied, wrong)

    def test_wrong_orders(self):
        orders = [(-1,), (2,), (0, 2), (0, 1, 0, 1), (0, True), (False,), ("0",), [0], [0, 1], "01", 0, (None,), (0, (1,))]
        self.checks_in_order(picked, (2, InvalidNumber, not_numbers(1, 3)), ((0,), InvalidOperation, list(KINDS) + orders))
        self.refuses(InvalidOperation, picked, 1, (1,))
        self.refuses(InvalidOperation, picked, 3, (3,))

    def test_wrong_gates(self):
        bits = not_words() + ["", "01", "000", "00000", "0" * 8, "0" * 16, "0002", ("0", "0", "0", "1")]
        self.checks_in_order(gate, (2, InvalidNumber, not_numbers(1, 3)), ("0001", InvalidWord, bits))
        self.refuses(InvalidWord, gate, 1, "0001")

    def test_wrong_factors_and_bits(self):
        for wrong in not_numbers(1, 8):
            self.refuses((InvalidNumber, wrong), times, wrong)
        for wrong in not_words() + ["", "00", "01", 0, 1, ("0",)]:
            self.refuses(InvalidWord, later, wrong)
            self.refuses(InvalidWord, sooner, wrong)
