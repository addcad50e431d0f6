"""Rows from one side, and how far outputs hang on inputs: 0.4 to 0.6, 0.12, 1.3 and stage 6."""

from slicerows.errors import InvalidOperation, InvalidRow
from slicerows.judge.least import least_row
from slicerows.judge.sides import from_left, goes_left, goes_right, is_needs_paper, needs_paper, span
from slicerows.rows.ready import added, copied, filled, gate, greater, last, later, lowest, picked, sooner, times
from slicerows.rows.rows import Row, row_with
from tests.helpers import ADD, AGAIN, HALF, KINDS, ODD, TOP, Checks, all_words, cell_columns, doubled, not_rows
from tests.helpers import output_words, place_of, some_rows, wide_row

SOME = some_rows(51, 40, 3) + some_rows(52, 8, 3, 2, 1) + some_rows(53, 6, 3, 1, 2)


def joined(*parts):
    """The inputs one behind the other."""
    return tuple(["".join(words) for words in zip(*parts)])


def column_at(row, words, at):
    """The output column at an index."""
    return tuple([word[at] for word in output_words(row, words)])


def inputs_up_to(lines, widest):
    return [words for width in range(widest + 1) for words in all_words(lines, width)]


def needs_by_inputs(row):
    """Whether some output column hangs on what comes behind it, by looking at all inputs of few columns."""
    few = inputs_up_to(row.inputs, 2)
    for beginning in few:
        for column in all_words(row.inputs, 1):
            made = [column_at(row, joined(beginning, column, end), len(beginning[0])) for end in few]
            if len(set(made)) > 1:
                return True
    return False


def merging_by_inputs(table, inputs):
    """The least width at which each input leads all signals of a table to one, or None."""
    for width in range(5):
        if all([len(set([led(table, signal, words) for signal in range(len(table))])) == 1
                for words in all_words(inputs, width)]):
            return width
    return None


def led(table, signal, words):
    for column in cell_columns(words):
        signal = table[signal][place_of(column)]
    return signal


class Sides(Checks):
    def test_sides_are_those_that_looking_finds(self):
        both = {True: 0, False: 0}
        for row in SOME:
            needs = needs_by_inputs(row)
            both[needs] += 1
            self.assertIs(goes_left(row), not needs)
            self.assertIs(goes_right(row), not needs_by_inputs(~row))
            self.assertIs(goes_right(~row), goes_left(row))
        self.assertGreater(min(both.values()), 5)

    def test_signals_that_make_no_difference_are_not_needed(self):
        for row in (doubled(ADD), AGAIN, doubled(later("1"))):
            self.assertIs(goes_left(row), True)
            self.assertIs(goes_right(row), False)
            self.assertIs(goes_left(~row), False)
            self.holds(needs_paper(row), None)
        row = Row(((0, 0),), ((0, 0), (1, 1)), (((("0", "0"), ("1", "1"))),))
        self.assertIs(goes_left(row), True)

    def test_known_rows(self):
        for row, left, right in ((ADD, True, False), (HALF, False, True), (ODD, False, False), (copied(2), True, True),
                                 (last(), False, True), (greater(), True, False), (lowest(), True, False),
                                 (TOP, False, True), (filled(), False, True), (times(8), True, False)):
            self.holds([goes_left(row), goes_right(row)], [left, right])

    def test_from_left(self):
        for row in SOME:
            if goes_left(row):
                self.assertTrue(from_left(row) == least_row(row))
                self.holds(from_left(row).rights, 1)
            else:
                self.refuses(InvalidOperation, from_left, row)
        self.assertTrue(from_left(AGAIN) == added())
        self.assertTrue(from_left(doubled(ADD)) == ADD)
        self.refuses(InvalidOperation, from_left, HALF)

    def test_wrong_rows(self):
        for wrong in not_rows():
            for call in (goes_left, goes_right, from_left, needs_paper, span):
                self.refuses(InvalidRow, call, wrong)
            for value in KINDS:
                self.refuses(InvalidRow, is_needs_paper, wrong, value)


class Papers(Checks):
    def judge(self, row):
        return lambda value: is_needs_paper(row, value)

    def test_papers_are_there_where_signals_are_needed(self):
        for row in SOME + [ADD, HALF, ODD, TOP, last(), wide_row(54, 60, 60, 1, 1), wide_row(55, 60, 1, 1, 1)]:
            paper = needs_paper(row)
            self.assertIs(paper is None, goes_left(row))
            self.assertIs(is_needs_paper(row, paper), paper is not None)
            if paper is not None:
                _, beginning, column, end, other = paper
                at = len(beginning[0])
                self.assertNotEqual(column_at(row, joined(beginning, tuple(column), end), at),
                                    column_at(row, joined(beginning, tuple(column), other), at))

    def test_papers_of_others(self):
        for row in SOME[:12] + [ODD, AGAIN]:
            few = inputs_up_to(row.inputs, 1) + [("10",) * row.inputs]
            for beginning in few:
                for column in all_words(row.inputs, 1):
                    for end in few:
                        for other in few:
                            at = len(beginning[0])
                            wanted = column_at(row, joined(beginning, column, end), at) \
                                != column_at(row, joined(beginning, column, other), at)
                            self.judges(self.judge(row), ("needs", beginning, "".join(column), end, other), wanted)

    def test_long_parts(self):
        wide = ("1" * 4000,)
        self.judges(self.judge(ODD), ("needs", wide, "0", wide, ("1" * 3999,)), True)
        self.judges(self.judge(ODD), ("needs", wide, "0", wide, ("",)), False)
        self.judges(self.judge(ODD), ("needs", ("1" * 4001,), "0", ("1",), ("",)), False)

    def test_far_needs(self):
        line = tuple([(0, min(signal + 1, 59)) for signal in range(60)])
        row = row_with(line, line, tuple([tuple([(str(left * right // (59 * 59)), "0") for right in range(60)])
                                          for left in range(60)]))
        self.holds(needs_paper(row), ("needs", ("1" * 59,), "0", ("1" * 59,), ("",)))
        self.judges(self.judge(row), needs_paper(row), True)
        self.judges(self.judge(row), ("needs", ("1" * 58,), "0", ("1" * 59,), ("",)), False)

    def test_values_of_other_kinds(self):
        self.refuses_spoiled(self.judge(HALF), ("needs", ("",), "0", ("1",), ("",)))
        self.refuses_spoiled(self.judge(~ADD), ("needs", ("0", "1"), "00", ("1", "1"), ("0", "1")))
        for value in (None, ("needs",), ("needs", ("",), "0", ("1",)), ("Needs", ("",), "0", ("1",), ("",)),
                      ("needs", ("",), "0", ("1",), ("",), ()), ("needs", ("",), ("0",), ("1",), ("",)),
                      ("needs", "", "0", ("1",), ("",)), ("needs", ("",), "00", ("1",), ("",)),
                      ("needs", ("",), "", ("1",), ("",)), ("needs", ("", ""), "0", ("1",), ("",)),
                      ("needs", ("",), "0", ("1",), ("1",)), ("needs", ("",), "0", ("1",), ("2",))):
            self.judges(self.judge(HALF), value, False)
        for row in (ADD, AGAIN, copied(1)):
            self.judges(self.judge(row), None, False)


class Spans(Checks):
    def test_spans_are_those_that_looking_finds(self):
        found = {}
        for row in SOME + some_rows(56, 60, 3):
            least = least_row(row)
            wanted = (merging_by_inputs(least.on, row.inputs), merging_by_inputs(least.back, row.inputs))
            self.holds(span(row), wanted)
            self.holds(span(~row), wanted[::-1])
            self.holds(span(doubled(row)), wanted)
            found[wanted[0]] = True
        self.assertGreater(len(found), 2)

    def test_known_spans(self):
        for row, wanted in ((HALF, (0, 1)), (sooner("1"), (0, 1)), (ADD, (None, 0)), (later("1"), (1, 0)),
                            (copied(3), (0, 0)), (gate(2, "0110"), (0, 0)), (ODD, (None, None)), (last(), (0, None)),
                            (picked(2, (1,)), (0, 0)), (greater(), (None, 0)), (times(2), (1, 0)), (times(4), (2, 0)),
                            (times(8), (3, 0)), (times(3), (None, 0)), (TOP, (0, None))):
            self.holds(span(row), wanted)

    def test_signals_can_merge_late(self):
        for bits in (3, 5):
            many = 2 ** bits
            shift = tuple([((2 * signal) % many, (2 * signal + 1) % many) for signal in range(many)])
            row = row_with(shift, ((0, 0),), tuple([((str(2 * signal // many),) * 2,) for signal in range(many)]))
            self.holds(span(row), (bits, 0))
            self.holds(span(~row), (0, bits))

    def test_signals_that_never_merge(self):
        down = ((59, 58),) + tuple([(signal - 1, signal - 1) for signal in range(1, 60)])
        row = row_with(down, ((0, 0),), tuple([((str(int(signal == 1)), "0"),) for signal in range(60)]))
        self.holds(least_row(row).lefts, 60)
        self.holds(span(row), (None, 0))

    def test_outputs_hang_on_no_more_columns(self):
        for row in (times(4), HALF, later("1")):
            ahead, behind = span(row)
            made = {}
            for words in all_words(1, 7):
                for at in range(ahead, 7 - behind):
                    near = words[0][at - ahead:at + behind + 1]
                    made.setdefault(near, column_at(row, words, at))
                    self.holds(column_at(row, words, at), made[near])
