"""Classes, least rows and papers of the fewest signals: 0.4 to 0.6, 0.11, 0.15, 5.1, 5.2 and stage 5."""

from slicerows.errors import InvalidNumber, InvalidRow
from slicerows.judge.alike import are_alike
from slicerows.judge.least import fewest_paper, is_fewest_paper, is_least, least_row, left_classes, parting_beginning
from slicerows.judge.least import parting_end, right_classes
from slicerows.rows.ready import copied, last, later, parity, times
from slicerows.rows.rows import Row, reached, reached_back, row_with, way_back_to, way_to
from tests.helpers import ADD, AGAIN, HALF, KINDS, ODD, TOP, Checks, all_words, doubled, not_numbers, not_rows
from tests.helpers import output_words, poor_tables, random_tables, run, some_rows, wide_row


def parting_width(row, one, other, back, widest):
    """The least width at which two signals part, or None, by looking at all inputs."""
    for width in range(widest + 1):
        for words in all_words(row.inputs, width):
            if parts(row, one, other, back, words):
                return width
    return None


def parts(row, one, other, back, words):
    """Whether an end, or a beginning, makes different output columns for two signals, straight from 0.11."""
    if back:
        return run(row, words, final=one) != run(row, words, final=other)
    return run(row, words, first=one) != run(row, words, first=other)


def classes_by_inputs(row, back):
    """For each signal the number of its class, by looking at all inputs of few columns."""
    seen, way, size = (reached_back, way_back_to, row.rights) if back else (reached, way_to, row.lefts)
    firsts = {}
    for signal in seen(row):
        words = way(row, signal)
        taken = list(zip(*words))
        firsts[signal] = (len(taken), taken[::-1] if back else taken)
    heads = []
    numbers = {}
    for signal in sorted(firsts, key=lambda signal: firsts[signal]):
        for at, head in enumerate(heads):
            if parting_width(row, head, signal, back, 7 if row.inputs == 1 else 3) is None:
                numbers[signal] = at
                break
        else:
            numbers[signal] = len(heads)
            heads.append(signal)
    return tuple([numbers.get(signal) for signal in range(size)])


def renumbered(row, lefts, rights):
    """The row with its signals in another order, the signals of both sides being led to 0 by 0."""
    on = [None] * row.lefts
    back = [None] * row.rights
    out = [[None] * row.rights for _ in range(row.lefts)]
    for signal, line in enumerate(row.on):
        on[lefts[signal]] = tuple([lefts[led] for led in line])
    for signal, line in enumerate(row.back):
        back[rights[signal]] = tuple([rights[led] for led in line])
    for left, line in enumerate(row.out):
        for right, cell in enumerate(line):
            out[lefts[left]][rights[right]] = cell
    return row_with(tuple(on), tuple(back), tuple([tuple(line) for line in out]))


SOME = some_rows(41, 40, 4) + some_rows(42, 10, 3, 2, 1) + some_rows(43, 8, 3, 1, 2)


class Classes(Checks):
    def test_classes_are_those_that_looking_finds(self):
        for row in SOME:
            self.holds(left_classes(row), classes_by_inputs(row, False))
            self.holds(right_classes(row), classes_by_inputs(row, True))

    def test_parting_inputs_have_the_least_width(self):
        for row in SOME[:30]:
            for back, find, many in ((False, parting_end, row.lefts), (True, parting_beginning, row.rights)):
                for one in range(many):
                    for other in range(many):
                        words = find(row, one, other)
                        width = parting_width(row, one, other, back, 7)
                        self.holds(None if words is None else len(words[0]), width)
                        if words is not None:
                            self.assertTrue(parts(row, one, other, back, words))

    def test_signals_need_not_be_reached_to_part(self):
        row = Row(((0, 0), (1, 1)), ((0, 0),), ((("0", "0"),), (("1", "0"),)))
        self.holds(left_classes(row), (0, None))
        self.holds(parting_end(row, 0, 1), ("0",))
        self.holds(parting_end(row, 1, 1), None)
        self.holds(parting_beginning(~row, 1, 0), ("0",))

    def test_only_ends_part_signals_from_the_left(self):
        row = Row(((0, 1), (0, 1)), ((0, 0), (1, 1)), ((("0", "0"), ("0", "0")), (("0", "0"), ("1", "1"))))
        self.holds([left_classes(row), right_classes(row)], [(0, 0), (0, None)])
        self.holds(parting_end(row, 0, 1), None)
        self.holds(parting_beginning(row, 0, 1), ("10",))

    def test_classes_are_numbered_by_first_ways(self):
        row = Row(((2, 1), (1, 1), (2, 2)), ((0, 0),), ((("0", "0"),), (("0", "1"),), (("1", "0"),)))
        self.holds(left_classes(row), (0, 2, 1))
        self.holds(right_classes(~row), (0, 2, 1))
        row = Row(((1, 2), (1, 1), (2, 2)), ((0, 0),), ((("0", "0"),), (("0", "1"),), (("1", "0"),)))
        self.holds(left_classes(row), (0, 1, 2))

    def test_far_parting_ends(self):
        line = tuple([(0, min(signal + 1, 59)) for signal in range(60)])
        row = row_with(line, line, tuple([tuple([(str(left * right // (59 * 59)), "0") for right in range(60)])
                                          for left in range(60)]))
        self.holds(len(parting_end(row, 0, 1)[0]), 58 + 1 + 59)
        self.holds(parting_beginning(row, 58, 59), ("1" * 59 + "0",))
        self.holds(left_classes(row), tuple(range(60)))
        self.assertIs(is_least(row), True)

    def test_wrong_signals(self):
        self.checks_in_order(parting_end, (AGAIN, InvalidRow, not_rows()), (0, InvalidNumber, not_numbers(0, 2)),
                             (2, InvalidNumber, not_numbers(0, 2)))
        self.checks_in_order(parting_beginning, (HALF, InvalidRow, not_rows()), (0, InvalidNumber, not_numbers(0, 1)),
                             (1, InvalidNumber, not_numbers(0, 1)))
        self.refuses((InvalidNumber, 1), parting_beginning, ADD, 0, 1)

    def test_wrong_rows(self):
        for call in (left_classes, right_classes, least_row, fewest_paper):
            for wrong in not_rows():
                self.refuses(InvalidRow, call, wrong)


class Least(Checks):
    def test_least_rows_are_alike_and_have_the_classes_as_signals(self):
        for row in SOME:
            found = least_row(row)
            for width in range(6 if row.inputs == 1 else 3):
                for words in all_words(row.inputs, width):
                    self.holds(output_words(found, words), output_words(row, words))
            lefts = [number for number in left_classes(row) if number is not None]
            rights = [number for number in right_classes(row) if number is not None]
            self.holds([found.lefts, found.rights], [len(set(lefts)), len(set(rights))])
            self.assertIs(are_alike(row, found), True)

    def test_tables_tell_classes(self):
        for row in SOME:
            lefts, rights, found = left_classes(row), right_classes(row), least_row(row)
            for left in reached(row):
                self.holds(found.on[lefts[left]], tuple([lefts[led] for led in row.on[left]]))
                for right in reached_back(row):
                    self.holds(found.out[lefts[left]][rights[right]], row.out[left][right])
            for right in reached_back(row):
                self.holds(found.back[rights[right]], tuple([rights[led] for led in row.back[right]]))

    def test_a_least_row_is_its_own_least_row(self):
        for row in SOME:
            found = least_row(row)
            self.assertTrue(least_row(found) == found)
            self.assertIs(is_least(found), True)
            self.assertIs(is_least(row), row == found)
            self.holds(left_classes(found), tuple(range(found.lefts)))
            self.holds(right_classes(found), tuple(range(found.rights)))

    def test_rows_are_alike_exactly_if_their_least_rows_are_equal(self):
        rows = [row for row in SOME if row.inputs == 1 and row.outputs == 1]
        both = {True: 0, False: 0}
        for at, row in enumerate(rows):
            self.assertTrue(least_row(doubled(row)) == least_row(row))
            for other in rows[:at]:
                alike = are_alike(row, other)
                both[alike] += 1
                self.assertIs(least_row(row) == least_row(other), alike)
        self.assertGreater(min(both.values()), 10)

    def test_the_order_of_signals_has_no_effect(self):
        for row in SOME:
            lefts = [0] + list(range(1, row.lefts))[::-1]
            rights = [0] + list(range(1, row.rights))[::-1]
            self.assertTrue(least_row(renumbered(row, lefts, rights)) == least_row(row))

    def test_mirrored_least_rows(self):
        for row in SOME:
            self.assertTrue(least_row(~row) == ~least_row(row))

    def test_rows_that_are_not_least(self):
        for row in (AGAIN, doubled(ADD), ADD.with_on(0, "11", 0), ADD.with_out(1, 0, "00", "0").with_on(0, "11", 0),
                    Row(((0, 0), (0, 0)), ((0, 0),), ((("0", "0"),), (("1", "0"),))), renumbered(last(), [0], [0, 2, 1])):
            self.assertIs(is_least(row), False)
        for row in (ADD, HALF, TOP, ODD, last(), times(8), copied(3)):
            self.assertIs(is_least(row), True)
        for value in not_rows():
            self.judges(is_least, value, False)
        self.holds(least_row(ADD.with_on(0, "11", 0)).lefts, 1)

    def test_eight_signals_of_each_side(self):
        line = tuple([(0, min(signal + 1, 7)) for signal in range(8)])
        row = Row(line, line, tuple([tuple([(str(left * right // 49), "0") for right in range(8)]) for left in range(8)]))
        self.assertIs(is_least(row), True)
        self.assertTrue(least_row(doubled(row)) == row)

    def test_wide_rows(self):
        for make in (random_tables, poor_tables):
            row = wide_row(44, 60, 60, 2, 2, make)
            found = least_row(row)
            self.assertIs(type(found), Row)
            self.assertIs(is_least(found), True)
            self.assertIs(are_alike(found, row), True)
        row = doubled(wide_row(45, 29, 29, 1, 1))
        self.holds([row.lefts, row.rights], [59, 59])
        self.assertIs(is_least(row), False)


class Papers(Checks):
    def judge(self, row):
        return lambda value: is_fewest_paper(row, value)

    def test_papers_tell_as_many_ways_as_there_are_classes(self):
        for row in SOME + [ADD, AGAIN, HALF, ODD, last(), times(8), wide_row(46, 30, 30, 1, 1)]:
            paper = fewest_paper(row)
            found = least_row(row)
            self.holds([paper[0], len(paper[1]), len(paper[2])], ["fewest", found.lefts, found.rights])
            self.assertIs(is_fewest_paper(row, paper), True)
            self.assertIs(is_fewest_paper(doubled(row), paper), True)

    def test_papers_of_others(self):
        for paper in ((("", ""), ("11", "10")), (("11", "10"), ("", "")), (("0110", "0011"), ("1" * 4000, "1" * 4000)),
                      (("10", "10"), ("10", "01"))):
            for end in (("", ""), ("0", "1"), ("1" * 4000, "0" * 4000)):
                self.judges(self.judge(ADD), ("fewest", paper, (end,)), [ADD.led(0, words) for words in paper] in
                            ([0, 1], [1, 0]))
                self.judges(self.judge(~ADD), ("fewest", (end,), tuple([tuple([word[::-1] for word in words])
                                                                      for words in paper])),
                            [ADD.led(0, words) for words in paper] in ([0, 1], [1, 0]))

    def test_papers_with_too_few_or_too_many_or_equal_classes(self):
        one, other, more, end = ("", ""), ("1", "1"), ("0", "0"), ("0", "1")
        for beginnings in ((one,), (), (one, more), (one, other, more), (one, one), (other, other), (one, other, one)):
            self.judges(self.judge(ADD), ("fewest", beginnings, (end,)), False)
        for ends in ((), (end, end), (end, one)):
            self.judges(self.judge(ADD), ("fewest", (one, other), ends), False)
        self.judges(self.judge(AGAIN), ("fewest", (("", ""), ("0", "1")), (end,)), False)
        self.judges(self.judge(AGAIN), ("fewest", (("0", "1"), ("1", "1")), (end,)), True)

    def test_ends_are_read_from_their_last_cell(self):
        self.judges(self.judge(HALF), ("fewest", (("",),), (("01",), ("10",))), True)
        self.judges(self.judge(HALF), ("fewest", (("",),), (("01",), ("00",))), False)
        self.judges(self.judge(HALF), ("fewest", (("",),), (("11",), ("10",))), False)

    def test_values_of_other_kinds(self):
        self.refuses_spoiled(self.judge(ADD), ("fewest", (("", ""), ("11", "10")), (("0", "1"),)))
        self.refuses_spoiled(self.judge(parity()), ("fewest", (("",), ("1",)), (("",), ("1",))))
        for value in (("fewest",), ("fewest", ()), ("fewest", (), ()), ("Fewest", (("", ""), ("1", "1")), (("", ""),)),
                      ("fewest", (("", ""), ("1", "1")), (("", ""),), ()), ("fewest", ("", "1"), (("", ""),)),
                      ("fewest", (("",), ("1",)), (("",),)), ("fewest", (("", ""), ("1", "1", "1")), (("", ""),)),
                      ("fewest", (("", ""), ("1" * 4001, "1" * 4001)), (("", ""),))):
            self.judges(self.judge(ADD), value, False)

    def test_wrong_rows(self):
        for wrong in not_rows():
            for value in KINDS:
                self.refuses(InvalidRow, is_fewest_paper, wrong, value)

    def test_later_rows(self):
        self.holds(fewest_paper(later("1")), ("fewest", (("",), ("0",)), (("",),)))
