"""Rows: 0.2, 0.4, 0.8, 0.9, 0.11 to 0.13 and stage 2."""

import copy
import random

from slicerows.base.bits import columns
from slicerows.errors import InvalidInput, InvalidNumber, InvalidRow, InvalidWord
from slicerows.judge.least import least_row
from slicerows.rows import rows
from slicerows.rows.rows import Row, reached, reached_back, row_with, way_back_to, way_to
from tests.helpers import ADD, HALF, KINDS, ODD, TOP, Checks, all_words, cell_columns, not_columns, not_inputs
from tests.helpers import not_numbers, not_rows, output_words, place_of, random_tables, some_rows, wide_row

TABLES = (ADD.on, ADD.back, ADD.out)


def replaced(value, way, entry):
    """Nested tuples with another entry at the end of a way of indices."""
    if not way:
        return entry
    at = way[0]
    return value[:at] + (replaced(value[at], way[1:], entry),) + value[at + 1:]


def ways_in(value):
    """The ways of indices to all parts of nested tuples."""
    yield ()
    if isinstance(value, tuple):
        for at, part in enumerate(value):
            for way in ways_in(part):
                yield (at,) + way


def square(lefts, rights, many, outputs):
    """Tables of so many signals, all entries 0."""
    cell = ("0" * outputs,) * many
    return ((0,) * many,) * lefts, ((0,) * many,) * rights, ((cell,) * rights,) * lefts


class Making(Checks):
    def test_constants(self):
        self.holds([rows.MAX_SIGNALS, rows.MAX_PASSED], [60, 8])

    def test_one_to_eight_signals(self):
        for lefts in range(1, 9):
            for rights in range(1, 9):
                row = Row(*square(lefts, rights, 2, 1))
                self.holds([row.lefts, row.rights], [lefts, rights])
        for lefts, rights in ((9, 1), (1, 9), (0, 1), (1, 0), (9, 9), (60, 60)):
            self.refuses(InvalidRow, Row, *square(lefts, rights, 2, 1))

    def test_two_four_or_eight_entries_and_one_to_three_output_lines(self):
        for many in range(10):
            for outputs in range(5):
                tables = square(2, 2, many, outputs)
                if many in (2, 4, 8) and outputs in (1, 2, 3):
                    row = Row(*tables)
                    self.holds([2 ** row.inputs, row.outputs], [many, outputs])
                else:
                    self.refuses(InvalidRow, Row, *tables)

    def test_all_lines_have_as_many_entries(self):
        for at in range(3):
            tables = list(square(2, 2, 4, 1))
            tables[at] = square(2, 2, 2, 1)[at]
            self.refuses(InvalidRow, Row, *tables)
        for lefts, rights in ((1, 2), (2, 1), (3, 2), (2, 3)):
            self.refuses(InvalidRow, Row, *square(2, 2, 4, 1)[:2], square(lefts, rights, 4, 1)[2])
        self.refuses(InvalidRow, Row, ((0, 0), (0, 0, 0, 0)), ((0, 0),), ((("0", "0"),),) * 2)
        self.refuses(InvalidRow, Row, ((0, 0),), ((0, 0),), ((("0", "00"),),))
        self.refuses(InvalidRow, Row, ((0, 0),), ((0, 0),), ((("0", "0"), ("0", "0")),))
        self.refuses(InvalidRow, Row, ((0, 0),), ((0, 0),), ((("0", "0"),), (("0", "0"),)))

    def test_signals_are_those_of_their_side(self):
        tables = square(2, 3, 2, 1)
        for wrong in not_numbers(0, 1):
            self.refuses(InvalidRow, Row, replaced(tables[0], (1, 0), wrong), tables[1], tables[2])
        for wrong in not_numbers(0, 2):
            self.refuses(InvalidRow, Row, tables[0], replaced(tables[1], (2, 1), wrong), tables[2])
        self.holds(Row(tables[0], replaced(tables[1], (2, 1), 2), tables[2]).back[2], (0, 2))

    def test_each_part_of_a_table_is_looked_at(self):
        for at, table in enumerate(TABLES):
            for way in ways_in(table):
                for other in KINDS:
                    tables = list(TABLES)
                    tables[at] = replaced(table, way, other)
                    self.refuses(InvalidRow, Row, *tables)
            for other in (list(table), [list(line) for line in table], dict(enumerate(table))):
                tables = list(TABLES)
                tables[at] = other
                self.refuses(InvalidRow, Row, *tables)

    def test_truth_values_are_no_signals(self):
        for at in (0, 1):
            for way in ways_in(TABLES[at]):
                if len(way) == 2:
                    for wrong in (False, True):
                        tables = list(TABLES)
                        tables[at] = replaced(TABLES[at], way, wrong)
                        self.refuses(InvalidRow, Row, *tables)

    def test_a_row_never_changes(self):
        row = Row(*TABLES)
        for name in ("on", "back", "out", "inputs", "outputs", "lefts", "rights"):
            with self.assertRaises(AttributeError):
                setattr(row, name, 1)
        row.with_on(0, "11", 0)
        row.with_back(0, "11", 0)
        row.with_out(0, 0, "11", "1")
        ~row
        row(("01", "01"))
        least_row(row)
        self.holds((row.on, row.back, row.out), TABLES)

    def test_properties(self):
        row = Row(*square(2, 3, 8, 2))
        self.holds([row.inputs, row.outputs, row.lefts, row.rights], [3, 2, 2, 3])
        self.holds((row.on, row.back, row.out), square(2, 3, 8, 2))


class Outputs(Checks):
    def test_output_and_signals_are_as_defined(self):
        for inputs, outputs, widest in ((1, 1, 5), (1, 3, 4), (2, 2, 3), (3, 1, 2), (3, 3, 1)):
            for row in some_rows(inputs * 10 + outputs, 12, 4, inputs, outputs):
                for width in range(widest + 1):
                    for words in all_words(inputs, width):
                        self.holds(row(words), output_words(row, words))
                        self.holds(row.made(words), row(words))
                        self.check_signals(row, words)

    def check_signals(self, row, words):
        told = [place_of(column) for column in cell_columns(words)]
        lefts, rights = row.left_signals(words), row.right_signals(words)
        self.holds([len(lefts), len(rights), lefts[0], rights[-1]], [len(told) + 1, len(told) + 1, 0, 0])
        for at, place in enumerate(told):
            self.holds(lefts[at + 1], row.on[lefts[at]][place])
            self.holds(rights[at], row.back[rights[at + 1]][place])
        self.holds([row.led(0, words), row.led_back(0, words)], [lefts[-1], rights[0]])

    def test_a_cell_reads_the_signals_at_both_its_boundaries(self):
        self.holds(HALF(("011",)), ("110",))
        self.holds(HALF.right_signals(("011",)), (0, 1, 1, 0))
        self.holds(ADD.left_signals(("011", "010")), (0, 0, 1, 1))

    def test_width_0_and_4000(self):
        for row, lines in ((ADD, 2), (HALF, 1), (ODD, 1)):
            self.holds(row(("",) * lines), ("",))
            self.holds([row.left_signals(("",) * lines), row.right_signals(("",) * lines)], [(0,), (0,)])
        self.holds(ADD(("1" * 4000, "1" + "0" * 3999)), ("0" * 4000,))
        self.holds(ODD(("1" * 3999 + "0",)), ("1" * 4000,))
        self.holds(len(HALF.right_signals(("1" * 4000,))), 4001)
        self.holds(TOP(("1" * 4000,)), ("0" * 3999 + "1",))

    def test_led_begins_at_any_signal(self):
        for row in some_rows(7, 10):
            for width in range(4):
                for words in all_words(1, width):
                    for signal in range(row.lefts):
                        found = signal
                        for column in cell_columns(words):
                            found = row.on[found][place_of(column)]
                        self.holds(row.led(signal, words), found)
                    for signal in range(row.rights):
                        found = signal
                        for column in cell_columns(words)[::-1]:
                            found = row.back[found][place_of(column)]
                        self.holds(row.led_back(signal, words), found)

    def test_wrong_inputs(self):
        for row in (ADD, HALF, Row(*square(1, 1, 8, 3)), wide_row(1, 9, 9)):
            for wrong in not_inputs(row.inputs):
                for call in (row, row.made, row.left_signals, row.right_signals):
                    self.refuses(InvalidInput, call, wrong)
            words = ("01",) * row.inputs
            self.checks_in_order(row.led, (0, InvalidNumber, not_numbers(0, row.lefts - 1)),
                                 (words, InvalidInput, not_inputs(row.inputs)))
            self.checks_in_order(row.led_back, (0, InvalidNumber, not_numbers(0, row.rights - 1)),
                                 (words, InvalidInput, not_inputs(row.inputs)))


class Others(Checks):
    def test_another_entry(self):
        for row in some_rows(3, 8, 3, 2, 2) + [wide_row(2, 20, 11, 2, 2)]:
            lefts, rights = row.lefts - 1, row.rights - 1
            for place, column in enumerate(columns(2)):
                self.holds(row.with_on(lefts, column, lefts).on, replaced(row.on, (lefts, place), lefts))
                self.holds(row.with_back(rights, column, rights).back, replaced(row.back, (rights, place), rights))
                found = row.with_out(lefts, rights, column, "11")
                self.holds(found.out, replaced(row.out, (lefts, rights, place), "11"))
                self.holds([found.on, found.back], [row.on, row.back])
                self.holds([row.with_on(0, column, 0).out, row.with_on(0, column, 0).back], [row.out, row.back])
                self.holds([row.with_back(0, column, 0).out, row.with_back(0, column, 0).on], [row.out, row.on])

    def test_wrong_entries(self):
        row = Row(*square(3, 2, 4, 3))
        self.checks_in_order(row.with_on, (2, InvalidNumber, not_numbers(0, 2)), ("00", InvalidWord, not_columns(2)),
                             (1, InvalidNumber, not_numbers(0, 2)))
        self.checks_in_order(row.with_back, (1, InvalidNumber, not_numbers(0, 1)), ("00", InvalidWord, not_columns(2)),
                             (1, InvalidNumber, not_numbers(0, 1)))
        self.checks_in_order(row.with_out, (2, InvalidNumber, not_numbers(0, 2)), (1, InvalidNumber, not_numbers(0, 1)),
                             ("00", InvalidWord, not_columns(2)), ("000", InvalidWord, not_columns(3)))

    def test_mirrored_rows(self):
        for row in some_rows(5, 20) + [ADD, HALF, TOP, ODD, wide_row(3, 12, 30, 1, 2)]:
            self.assertTrue(~row == row.mirrored())
            self.assertTrue(~~row == row)
            self.holds([(~row).on, (~row).back, (~row).lefts, (~row).rights], [row.back, row.on, row.rights, row.lefts])
            for width in range(5):
                for words in all_words(row.inputs, min(width, 2)):
                    turned = tuple([word[::-1] for word in words])
                    self.holds((~row)(turned), tuple([word[::-1] for word in row(words)]))

    def test_equal_rows(self):
        for row in some_rows(6, 12) + [ADD, wide_row(4)]:
            equal = row_with(copy.deepcopy(row.on), copy.deepcopy(row.back), copy.deepcopy(row.out))
            self.assertIs(row == equal, True)
            self.assertIs(row != equal, False)
            for value in [kind for kind in KINDS if not isinstance(kind, Row)] + [(row.on, row.back, row.out), Row, str(row)]:
                self.assertIs(row == value, False)
                self.assertIs(row != value, True)

    def test_rows_with_other_tables_are_not_equal(self):
        for other in (ADD.with_on(0, "00", 1), ADD.with_out(1, 0, "11", "0"), ~ADD, HALF):
            self.assertIs(ADD == other, False)
            self.assertIs(ADD != other, True)
        self.assertIs(HALF == HALF.with_back(0, "0", 1), False)

    def test_text(self):
        self.holds(str(ADD), "row of 2 lines to 1, 2 signals from the left, 1 from the right")
        self.holds(str(wide_row(1, 60, 59, 1, 3)), "row of 1 lines to 3, 60 signals from the left, 59 from the right")
        self.assertTrue(eval(repr(ADD)) == ADD)

    def test_rows_are_not_iterated(self):
        with self.assertRaises(TypeError):
            iter(ADD)
        with self.assertRaises(TypeError):
            list(ADD)

    def test_rows_with_sixty_signals_are_rows(self):
        row = wide_row(5, 60, 60, 3, 3)
        self.assertIs(type(row), Row)
        self.holds([row.lefts, row.rights, row.inputs, row.outputs], [60, 60, 3, 3])
        for words in (("",) * 3, ("0110", "1010", "1110"), ("01" * 2000,) * 3):
            self.holds(row(words), output_words(row, words))
        for other in (row.with_on(59, "111", 59), row.with_back(59, "111", 59), row.with_out(59, 59, "111", "000"), ~row):
            self.holds([type(other), other.lefts, other.rights], [Row, 60, 60])
        self.holds([row.with_on(59, "111", 58).on[59][7], row.with_out(59, 58, "110", "101").out[59][58][6]], [58, "101"])
        self.refuses(InvalidRow, Row, row.on, row.back, row.out)
        self.refuses((InvalidNumber, 60), row.led, 60, ("", "", ""))


def ways_by_width(row, back):
    """For each signal the first input that leads 0 to it, from an ordered list of all inputs of few columns."""
    found = {}
    for width in range(4):
        for taken in sorted([tuple(cell_columns(words)) for words in all_words(row.inputs, width)]):
            led = taken[::-1] if back else taken
            words = tuple(["".join([column[line] for column in led]) for line in range(row.inputs)])
            signal = row.led_back(0, words) if back else row.led(0, words)
            found.setdefault(signal, words)
    return found


class Reached(Checks):
    def test_reached_signals_and_first_ways(self):
        for row in some_rows(8, 60, 4) + some_rows(9, 20, 4, 2, 1):
            for back, seen, way in ((False, reached, way_to), (True, reached_back, way_back_to)):
                found = ways_by_width(row, back)
                self.holds(seen(row), tuple(sorted(found)))
                for signal in range(row.rights if back else row.lefts):
                    self.holds(way(row, signal), found.get(signal))

    def test_ways_of_many_columns(self):
        line = tuple([(min(signal + 1, 59), 0) for signal in range(60)])
        row = row_with(line, line, (((("0", "0"),) * 60),) * 60)
        self.holds([way_to(row, 59), way_back_to(row, 59)], [("0" * 59,), ("0" * 59,)])
        self.holds(reached(row), tuple(range(60)))
        self.holds(way_to(row, 0), ("",))

    def test_ends_are_taken_from_the_right(self):
        row = Row(((0, 0),), ((1, 2), (0, 3), (3, 0), (3, 3)), ((("0", "0"),) * 4,))
        self.holds(way_back_to(row, 3), ("10",))
        self.holds(row.led_back(0, ("10",)), 3)

    def test_signals_that_nothing_leads_to(self):
        row = Row(((0, 0), (1, 1)), ((0, 0), (0, 0)), ((("0", "1"),) * 2,) * 2)
        self.holds([reached(row), reached_back(row), way_to(row, 1), way_back_to(row, 1)], [(0,), (0,), None, None])

    def test_wrong_rows_and_signals(self):
        for wrong in not_rows():
            self.refuses(InvalidRow, reached, wrong)
            self.refuses(InvalidRow, reached_back, wrong)
        self.checks_in_order(way_to, (ADD, InvalidRow, not_rows()), (1, InvalidNumber, not_numbers(0, 1)))
        self.checks_in_order(way_back_to, (TOP, InvalidRow, not_rows()), (1, InvalidNumber, not_numbers(0, 1)))
        self.refuses((InvalidNumber, 1), way_back_to, ADD, 1)

    def test_results_are_the_same_again(self):
        for row in some_rows(11, 5) + [Row(*random_tables(random.Random(3), 8, 8, 3, 3))]:
            self.holds([reached(row), way_to(row, 0), repr(~row)], [reached(row), way_to(row, 0), repr(~row)])
