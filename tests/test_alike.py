"""Rows that are alike: 0.4 to 0.6, 0.10, 0.14, 1.3, 4.1 and stage 4."""

from slicerows.errors import InvalidOperation, InvalidRow
from slicerows.judge.alike import alike_paper, are_alike, is_alike_paper, left_pairs, right_pairs, unlike_input
from slicerows.judge.least import least_row
from slicerows.rows.ready import copied, gate, greater, last, later, picked, times
from slicerows.rows.rows import Row, row_with
from tests.helpers import ADD, AGAIN, HALF, ODD, TOP, Checks, all_words, cell_columns, doubled, not_rows, output_words
from tests.helpers import place_of, poor_tables, random_tables, some_rows, wide_row

CALLS = (left_pairs, right_pairs, are_alike, unlike_input, alike_paper, lambda one, other: is_alike_paper(one, other, 0))


def first_unlike(one, other, widest):
    """The least width of an input with different outputs, or None, by looking at all inputs."""
    for width in range(widest + 1):
        for words in all_words(one.inputs, width):
            if output_words(one, words) != output_words(other, words):
                return width
    return None


def pairs_by_inputs(one, other, back, widest):
    """The pairs to which all beginnings, or all ends, of some widths lead, straight from the tables."""
    found = []
    for width in range(widest + 1):
        for words in all_words(one.inputs, width):
            pair = (0, 0)
            for column in cell_columns(words):
                tables = (one.back, other.back) if back else (one.on, other.on)
                pair = (tables[0][pair[0]][place_of(column)], tables[1][pair[1]][place_of(column)])
            found.append(pair)
    return tuple(sorted(set(found)))


def counting(signals, cell):
    """A row of one line that counts the bits 1 on both sides up to its greatest signals, and marks one cell so."""
    line = tuple([(0, min(signal + 1, signals - 1)) for signal in range(signals)])
    nothing = ("0", "0")
    out = tuple([tuple([cell if left == right == signals - 1 else nothing for right in range(signals)])
                 for left in range(signals)])
    return row_with(line, line, out)


class Alike(Checks):
    def some_pairs(self):
        """Pairs of rows that are alike, nearly alike or unlike."""
        found = []
        for inputs, outputs, many in ((1, 1, 24), (2, 1, 8), (1, 2, 8)):
            rows = some_rows(20 + inputs + outputs, many, 3, inputs, outputs)
            for at, row in enumerate(rows):
                found.append((row, rows[at - 1]))
                found.append((row, doubled(row)))
                column = "0" * inputs
                found.append((doubled(row), row.with_out(row.lefts - 1, 0, column, "1" * outputs)))
                found.append((row, row.with_on(0, column, row.lefts - 1)))
        return found

    def test_least_inputs_are_those_that_looking_finds(self):
        both = {True: 0, False: 0}
        for one, other in self.some_pairs():
            width = first_unlike(one, other, 6 if one.inputs == 1 else 3)
            words = unlike_input(one, other)
            self.assertIs(are_alike(one, other), words is None)
            both[words is None] += 1
            if width is not None:
                self.holds(len(words[0]), width)
            elif words is not None:
                self.assertGreater(len(words[0]), 6 if one.inputs == 1 else 3)
            if words is not None:
                self.assertNotEqual(output_words(one, words), output_words(other, words))
                pairs = len(left_pairs(one, other)) + len(right_pairs(one, other))
                self.assertLess(len(words[0]), one.lefts * other.lefts + one.rights * other.rights)
                self.assertLess(len(words[0]), pairs)
        self.assertGreater(min(both.values()), 20)

    def test_pairs_are_those_to_which_inputs_lead(self):
        for one, other in self.some_pairs():
            if one.inputs == 1 and other.lefts <= 3 and other.rights <= 3:
                self.holds(left_pairs(one, other), pairs_by_inputs(one, other, False, 8))
                self.holds(right_pairs(one, other), pairs_by_inputs(one, other, True, 8))

    def test_papers_are_accepted_and_not_those_of_the_other_form(self):
        for one, other in self.some_pairs():
            paper = alike_paper(one, other)
            words = unlike_input(one, other)
            self.assertIs(is_alike_paper(one, other, paper), True)
            if words is None:
                self.holds(paper, ("alike", left_pairs(one, other), right_pairs(one, other)))
                self.assertIs(is_alike_paper(one, other, ("unlike", ("0110",) * one.inputs)), False)
            else:
                self.holds(paper[0], "unlike")
                pairs = ("alike", left_pairs(one, other), right_pairs(one, other))
                self.assertIs(is_alike_paper(one, other, pairs), False)

    def test_rows_that_part_behind_a_long_input(self):
        one, other = counting(8, ("1", "0")), counting(8, ("0", "0"))
        self.holds(unlike_input(one, other), ("111111101111111",))
        self.holds(len(unlike_input(counting(8, ("1", "1")), counting(8, ("1", "0")))[0]), 15)
        one, other = counting(60, ("1", "0")), counting(60, ("0", "0"))
        self.holds(unlike_input(one, other), ("1" * 59 + "0" + "1" * 59,))
        self.assertIs(are_alike(one, one), True)
        self.assertIs(are_alike(one, other), False)

    def test_the_least_width_adds_up_both_sides(self):
        line = tuple([(0, min(signal + 1, 7)) for signal in range(8)])
        nothing = Row(line, line, ((("0", "0"),) * 8,) * 8)
        for cells in (((0, 5), (1, 0)), ((0, 7), (3, 3)), ((0, 7), (7, 0), (2, 4)), ((5, 0), (0, 4)), ((4, 4), (7, 2)),
                      ((0, 4), (1, 2), (2, 0)), ((1, 6), (2, 6), (6, 1), (3, 3), (4, 3)), ((6, 2), (7, 0), (1, 5))):
            row = nothing
            for left, right in cells:
                row = row.with_out(left, right, "0", "1")
            width = min([left + right + 1 for left, right in cells])
            for one, other in ((row, nothing), (nothing, row), (~row, nothing)):
                words = unlike_input(one, other)
                self.holds(len(words[0]), width)
                self.assertNotEqual(output_words(one, words), output_words(other, words))

    def test_rows_alike_at_all_widths_up_to_their_signals_can_be_unlike(self):
        one, other = counting(8, ("1", "0")), copied(1).with_out(0, 0, "1", "0")
        self.holds(first_unlike(one, other, 9), None)
        self.assertIs(are_alike(one, other), False)
        self.holds(len(unlike_input(one, other)[0]), 15)

    def test_known_rows(self):
        self.assertIs(are_alike(ADD, AGAIN), True)
        self.assertIs(are_alike(AGAIN, ADD), True)
        self.assertIs(are_alike(ODD, ~ODD), True)
        self.assertIs(are_alike(HALF, ~later("0")), True)
        self.assertIs(are_alike(HALF, later("0")), False)
        self.assertIs(are_alike(gate(2, "0011"), picked(2, (0,))), True)
        self.assertIs(are_alike(greater(), gate(2, "0010")), False)
        self.assertIs(are_alike(times(2), later("0")), True)
        self.holds(left_pairs(ADD, AGAIN), ((0, 0), (0, 2), (1, 1)))
        self.holds(right_pairs(TOP, last()), ((0, 0), (0, 1), (1, 1), (1, 2)))

    def test_wide_rows(self):
        for make in (random_tables, poor_tables):
            one = wide_row(31, 60, 60, 3, 3, make)
            other = one.with_out(59, 59, "111", "101").with_out(58, 58, "010", "011")
            for row in (one, other):
                paper = alike_paper(one, row)
                self.assertIs(is_alike_paper(one, row, paper), True)
                self.assertIs(are_alike(row, least_row(row)), True)
        self.assertIs(are_alike(wide_row(1, 60, 1, 1, 1), wide_row(2, 1, 60, 1, 1)), False)


class Papers(Checks):
    def judge(self, one, other):
        return lambda value: is_alike_paper(one, other, value)

    def test_more_pairs_than_are_reached(self):
        row = Row(((0, 0), (1, 2), (2, 1)), ((0, 0), (0, 1)), ((("0", "1"), ("1", "1")),) * 3)
        self.holds(left_pairs(row, row), ((0, 0),))
        for lefts in (((0, 0),), ((0, 0), (1, 1), (2, 2)), ((0, 0), (1, 2), (2, 1)),
                      ((0, 0), (1, 1), (1, 2), (2, 1), (2, 2))):
            for rights in (((0, 0),), ((0, 0), (1, 1))):
                self.judges(self.judge(row, row), ("alike", lefts, rights), True)
        for lefts in (((0, 0), (1, 1)), ((1, 1), (2, 2)), (), ((0, 0), (2, 2), (1, 1)), ((0, 0), (0, 0)),
                      ((0, 0), (3, 3)), ((0, 0), (1, 2, 0)), ((0, 0), (1,)), ((0, 0), (-1, -1)), ((0, 0), ())):
            self.judges(self.judge(row, row), ("alike", lefts, ((0, 0),)), False)
        for far in ((3, 0), (0, 3), (3, 3), (2, 3)):
            self.judges(self.judge(row, row), ("alike", ((0, 0), far), ((0, 0),)), False)
        for far in ((-1, -1), (-1, 0), (-3, 0), (-1, 2)):
            self.judges(self.judge(row, row), ("alike", (far, (0, 0), (1, 1), (2, 2)), ((0, 0),)), False)
        for far in ((0, -1), (0, -3), (0, -2)):
            self.judges(self.judge(row, row), ("alike", (far, (0, 0), (1, 1), (2, 2)), ((0, 0),)), False)
        for rights in ((), ((1, 1),), ((0, 0), (0, 1)), ((0, 0), (2, 2)), ((1, 1), (0, 0)), ((0, -2), (0, 0)),
                       ((-2, 0), (0, 0)), ((0, 0), (0, 2)), ((0, 0), (2, 0)), ((0, 0), (1, -1), (1, 1))):
            self.judges(self.judge(row, row), ("alike", ((0, 0),), rights), False)

    def test_pairs_that_are_not_reached_must_make_equal_columns_too(self):
        row = Row(((0, 0), (1, 1)), ((0, 0),), ((("0", "0"),), (("1", "0"),)))
        other = row.with_out(1, 0, "0", "0")
        self.judges(self.judge(row, other), ("alike", ((0, 0),), ((0, 0),)), True)
        self.judges(self.judge(row, other), ("alike", ((0, 0), (1, 1)), ((0, 0),)), False)

    def test_pairs_are_signals_of_their_own_rows(self):
        row = doubled(copied(1))
        self.judges(self.judge(copied(1), row), ("alike", ((0, 0), (0, 1)), ((0, 0), (0, 1))), True)
        self.judges(self.judge(row, copied(1)), ("alike", ((0, 0), (0, 1)), ((0, 0), (0, 1))), False)
        self.judges(self.judge(row, copied(1)), ("alike", ((0, 0), (1, 0)), ((0, 0), (1, 0))), True)

    def test_any_input_that_shows_the_opposite(self):
        for words in (("0",), ("1",), ("01",), ("1" * 4000,), ("000",)):
            self.judges(self.judge(HALF, ~later("1")), ("unlike", words), True)
            self.judges(self.judge(HALF, HALF), ("unlike", words), False)
        for words in (("",), "0", ["0"], ("0", "0"), ("2",), ("0" * 4001,), (), None, (0,)):
            self.judges(self.judge(HALF, ~later("1")), ("unlike", words), False)
        self.judges(self.judge(ADD, greater()), ("unlike", ("0", "0")), False)
        self.judges(self.judge(ADD, greater()), ("unlike", ("0", "1")), True)

    def test_values_of_other_kinds(self):
        self.refuses_spoiled(self.judge(ADD, AGAIN), ("alike", ((0, 0), (0, 2), (1, 1)), ((0, 0),)))
        self.refuses_spoiled(self.judge(ODD, ODD), ("alike", ((0, 0), (1, 1)), ((0, 0), (1, 1))))
        self.refuses_spoiled(self.judge(HALF, ~later("1")), ("unlike", ("0",)))
        for value in (("alike",), ("unlike",), ("alike", ((0, 0),)), ("unlike", ("0",), ("0",)), ("Alike", (), ()),
                      ("alike", ((0, 0), (1, 1)), ((0, 0), (1, 1)), ()), (b"unlike", ("0",)), "unlike", 7):
            self.judges(self.judge(ODD, ODD), value, False)
            self.judges(self.judge(HALF, later("0")), value, False)


class Wrong(Checks):
    def test_rows_are_wanted(self):
        for call in CALLS:
            self.checks_in_order(call, (ADD, InvalidRow, not_rows()), (AGAIN, InvalidRow, not_rows()))

    def test_lines_are_compared_then(self):
        for call in CALLS:
            for other in (HALF, copied(2), copied(3), picked(2, (0, 1, 0)), picked(3, (0,))):
                self.refuses(InvalidOperation, call, ADD, other)
                self.refuses(InvalidOperation, call, other, ADD)
            self.refuses(InvalidRow, call, HALF, None)
