"""Mean times: 0.2, 0.4 to 0.6, 0.18, 0.20, 17.1, 17.2 and stage 17."""

import math
import random
from fractions import Fraction

from slicerows.base.bits import is_input
from slicerows.errors import InvalidNumber, InvalidOperation, InvalidRow, TooMany
from slicerows.rows.joined import behind, together
from slicerows.rows.ready import copied, filled, greater, last, later, lowest, negated, times
from slicerows.rows.rows import Row, row_with
from slicerows.ticks.means import is_reset_paper, limit_time, mean_time, open_inputs, reset_input, reset_paper
from slicerows.ticks.settling import growth_rate, settled_at
from tests.helpers import ADD, AGAIN, HALF, KINDS, ODD, TOP, Checks, all_words, cell_columns, doubled, not_numbers, not_rows
from tests.helpers import place_of, same, some_rows, spoiled, wide_row
from tests.test_counts import widest
from tests.test_settling import BACKWARD, ENOUGH, MORE, ONES, cases, not_delays, open_graph, turning

READY = [ADD, AGAIN, BACKWARD, negated(), times(3), times(7), greater(), lowest(), ~HALF, ~TOP, ODD, ~filled()]


def is_reset(row, words):
    """Whether an input leads all signals from the left to one."""
    signals = set(range(row.lefts))
    for column in cell_columns(words):
        signals = {row.on[p][place_of(column)] for p in signals}
    return len(signals) == 1


def open_many(row, width):
    """The number of the inputs of a width that do not reset a row, by looking at all."""
    return len([words for words in all_words(row.inputs, width) if not is_reset(row, words)])


def pair(fraction):
    return (fraction.numerator, fraction.denominator)


def expected(row, delays):
    """The limit, by solving the equations of all open sets with fractions; None if they have no solution."""
    graph = open_graph(row)
    if not graph:
        return Fraction(0)
    order = {signals: at for at, signals in enumerate(graph)}
    many = len(delays)
    lines = []
    for signals, led in graph.items():
        line = [Fraction(0)] * len(order) + [Fraction(1)]
        line[order[signals]] += 1
        for found in led:
            if found is not None:
                line[order[found]] -= Fraction(1, many)
        lines.append(line)
    for at in range(len(order)):
        pivot = next((other for other in range(at, len(order)) if lines[other][at] != 0), None)
        if pivot is None:
            return None
        lines[at], lines[pivot] = lines[pivot], lines[at]
        for other in range(len(order)):
            if other != at and lines[other][at] != 0:
                scale = lines[other][at] / lines[at][at]
                lines[other] = [one - scale * two for one, two in zip(lines[other], lines[at])]
    return lines[0][-1] / lines[0][0] * Fraction(sum(delays), many)


def merged(row):
    """The pairs of signals that some input leads to one, by going back from the pairs that a column merges."""
    pairs = {(one, other) for other in range(row.lefts) for one in range(other)}
    found = set()
    while True:
        more = {both for both in pairs - found
                if any([len(led) == 1 or tuple(sorted(led)) in found
                        for led in [{row.on[p][place] for p in both} for place in range(len(row.on[0]))]])}
        if not more:
            return found, pairs - found
        found |= more


def is_right(row, value):
    """Whether a value is a paper, straight from stage 17."""
    if type(value) is not tuple or len(value) != 2:
        return False
    if same(value[0], "resets"):
        return is_input(row.inputs, value[1]) and is_reset(row, value[1])
    if not same(value[0], "never") or type(value[1]) is not tuple or not value[1]:
        return False
    for both in value[1]:
        if type(both) is not tuple or len(both) != 2 or not all([type(p) is int and 0 <= p < row.lefts for p in both]):
            return False
        if both[0] >= both[1]:
            return False
    if list(value[1]) != sorted(set(value[1])):
        return False
    return all([tuple(sorted({row.on[p][place] for p in both})) in value[1]
                for both in value[1] for place in range(len(row.on[0]))])


def slow_ring(many):
    """A row that needs the longest inputs to be reset: one column turns its ring, one leads the first signal on."""
    return row_with(tuple([((at + 1) % many, max(at, 1)) for at in range(many)]), ((0, 0),), ((("0", "0"),),) * many)


class Opened(Checks):
    def test_against_all_inputs(self):
        for row, _ in cases(401, 45):
            for width in range(widest(row) + 1):
                self.holds(open_inputs(row, width), open_many(row, width))

    def test_ready_rows(self):
        self.holds([open_inputs(ADD, width) for width in (0, 1, 3, 400)], [1, 2, 8, 2 ** 400])
        self.holds([open_inputs(BACKWARD, width) for width in (0, 1, 400)], [1, 0, 0])
        self.holds([open_inputs(ODD, width) for width in (0, 5, 400)], [1, 32, 2 ** 400])
        self.holds([open_inputs(copied(3), width) for width in (0, 1, 400)], [0, 0, 0])

    def test_errors(self):
        for row in (ADD, copied(1)):
            self.checks_in_order(open_inputs, (row, InvalidRow, not_rows()), (3, InvalidNumber, not_numbers(0, 400)))
        for width in (0, 7, 400):
            self.refuses(TooMany, open_inputs, MORE, width)
        self.refuses((InvalidNumber, 401), open_inputs, MORE, 401)
        self.holds(open_inputs(ENOUGH, 400), 4 ** 400)


class Means(Checks):
    def test_against_all_inputs(self):
        for row, delays in cases(403, 45):
            for width in range(widest(row) + 1):
                told = [settled_at(row, delays, words)[-1] for words in all_words(row.inputs, width)]
                self.holds(mean_time(row, delays, width), pair(Fraction(sum(told), len(told))))

    def test_ready_rows(self):
        self.holds([mean_time(ADD, ONES[2], width) for width in (0, 1, 2, 3)], [(0, 1), (1, 1), (3, 2), (7, 4)])
        self.holds(mean_time(ADD, (1, 2, 2, 1), 400), (3 * (2 ** 400 - 1), 2 ** 400))
        self.holds([mean_time(BACKWARD, (1, 3), width) for width in (0, 1, 400)], [(0, 1), (2, 1), (2, 1)])
        self.holds([mean_time(ODD, (1, 2), width) for width in (1, 4, 400)], [(3, 2), (6, 1), (600, 1)])
        self.holds([mean_time(copied(1), (9, 9), width) for width in (0, 400)], [(0, 1), (0, 1)])

    def test_no_common_divisor(self):
        for row, delays in cases(405, 12):
            for width in (0, 1, 7, 60):
                top, bottom = mean_time(row, delays, width)
                self.holds([math.gcd(top, bottom), bottom >= 1], [1, True])

    def test_errors(self):
        for row in (ADD, BACKWARD):
            self.checks_in_order(mean_time, (row, InvalidRow, not_rows()), (ONES[row.inputs], InvalidOperation, not_delays(row)),
                                 (3, InvalidNumber, not_numbers(0, 400)))
            self.checks_in_order(limit_time, (row, InvalidRow, not_rows()), (ONES[row.inputs], InvalidOperation, not_delays(row)))
        for call in (lambda: mean_time(MORE, (1,) * 4, 0), lambda: limit_time(MORE, (1,) * 4), lambda: reset_input(MORE)):
            with self.assertRaises(TooMany) as caught:
                call()
            self.holds(caught.exception.limit, 2000)
        self.refuses(InvalidOperation, limit_time, MORE, (1,) * 5)
        self.refuses((InvalidNumber, -1), mean_time, MORE, (1,) * 4, -1)


class Limits(Checks):
    def test_against_equations(self):
        told = {True: 0, False: 0}
        for row, delays in cases(407, 120, 5) + [(row, (1, 3) * (len(row.on[0]) // 2)) for row in READY]:
            limit = limit_time(row, delays)
            told[limit is None] += 1
            self.assertIs(limit is None, reset_input(row) is None)
            if limit is not None:
                self.holds(limit, pair(expected(row, delays)))
        self.assertGreater(min(told.values()), 15)

    def test_means_come_near(self):
        for row, delays in cases(409, 30):
            limit = limit_time(row, delays)
            wide = [Fraction(*mean_time(row, delays, width)) for width in (100, 200, 400)]
            if limit is None:
                self.assertGreaterEqual(wide[2] - wide[1], Fraction(3, 2) * (wide[1] - wide[0]))
            else:
                self.assertTrue(wide[0] <= wide[1] <= wide[2] <= Fraction(*limit))
                self.assertLess(Fraction(*limit) - wide[2], Fraction(1, 1000))

    def test_ready_rows(self):
        self.holds([limit_time(ADD, ONES[2]), limit_time(ADD, (1, 2, 2, 1)), limit_time(BACKWARD, (1, 3)), limit_time(ODD, (1, 1)),
                    limit_time(copied(1), (9, 9)), limit_time(last(), (1, 1)), limit_time(greater(), (2, 2, 2, 3))],
                   [(2, 1), (3, 1), (2, 1), None, (0, 1), (0, 1), (9, 2)])

    def test_the_mean_may_be_bounded_where_the_longest_time_is_not(self):
        # 0.20: if the longest time grows without bound, so does the mean time.
        self.holds([growth_rate(ADD, ONES[2]), limit_time(ADD, ONES[2])], [(1, 1), (2, 1)])

    def test_many_open_sets(self):
        row = slow_ring(6)
        self.holds([len(open_graph(row)), limit_time(row, (1, 2))], [57, pair(expected(row, (1, 2)))])
        self.assertGreater(limit_time(slow_ring(8), (1, 1))[0], 30)
        self.holds(limit_time(ENOUGH, (1,) * 4), None)
        wide = slow_ring(10)
        top, bottom = limit_time(wide, (1, 1))
        self.assertGreater(top, 60 * bottom)
        # Two rings, and a column that leads their places to the heads, that of one head to the other one.
        rings = [list(line) for line in turning((20, 30), 0).on]
        for place in range(50):
            rings[place][2] = 20 if place == 0 or place >= 20 else 0
        row = row_with(tuple([tuple(line) for line in rings]), ((0,) * 4,), ((("0",) * 4,),) * 50)
        top, bottom = limit_time(row, (1, 2, 3, 4))
        near = Fraction(*mean_time(row, (1, 2, 3, 4), 400))
        self.assertTrue(near <= Fraction(top, bottom) < near + 1)
        self.holds(math.gcd(top, bottom), 1)


class Resets(Checks):
    def test_against_all_inputs(self):
        for row, _ in cases(411, 80, 5):
            words = reset_input(row)
            self.assertIs(words is None, bool(merged(row)[1]))
            if words is not None:
                self.assertTrue(is_input(row.inputs, words) and is_reset(row, words))
                width = len(words[0])
                if 0 < width < 8:
                    self.holds(open_many(row, width - 1), len(all_words(row.inputs, width - 1)))

    def test_ready_rows(self):
        self.holds([reset_input(copied(1)), reset_input(copied(3)), reset_input(HALF), reset_input(ODD)],
                   [("",), ("", "", ""), ("",), None])
        self.holds([reset_input(ADD) in (("0", "0"), ("1", "1")), len(reset_input(slow_ring(8))[0]), len(reset_input(slow_ring(4))[0])],
                   [True, 49, 9])
        self.holds([reset_input(row) for row in (AGAIN, doubled(ADD), ENOUGH)][1:], [None, None])

    def test_errors(self):
        for call in (reset_input, reset_paper):
            self.checks_in_order(call, (ADD, InvalidRow, not_rows()))
        for wrong in not_rows():
            for value in KINDS[::5]:
                self.refuses(InvalidRow, is_reset_paper, wrong, value)


class Papers(Checks):
    def judge(self, row):
        return lambda value: is_reset_paper(row, value)

    def test_papers(self):
        for row in [row for row, _ in cases(413, 90, 5)] + READY + [wide_row(415, 60, 2, 1, 1), MORE, ENOUGH, slow_ring(20)]:
            paper = reset_paper(row)
            self.judges(self.judge(row), paper, True)
            self.assertTrue(is_right(row, paper))
            if paper[0] == "never":
                self.holds(paper, ("never", tuple(sorted(merged(row)[1]))))

    def test_longest_papers(self):
        # Going pair by pair would take more columns than a word has.
        for many in (50, 60):
            paper = reset_paper(slow_ring(many))
            self.holds([paper[0], len(paper[1][0]) <= 4000, is_reset(slow_ring(many), paper[1])], ["resets", True, True])
            self.judges(self.judge(slow_ring(many)), paper, True)

    def test_other_inputs(self):
        for words, wanted in ((("01", "00"), True), (("10", "01"), False), (("0" * 4000, "1" * 4000), False), (("", ""), False),
                              (("0" * 3999 + "1", "1" * 4000), True), (("1" * 4001, "1" * 4001), False), (("1",), False),
                              (("1", "11"), False), ("11", False), (["1", "1"], False), ((1, 1), False)):
            self.judges(self.judge(ADD), ("resets", words), wanted)
        self.judges(self.judge(copied(1)), ("resets", ("",)), True)
        self.judges(self.judge(ODD), ("resets", ("1",)), False)

    def test_other_pairs(self):
        source = random.Random(417)
        accepted = 0
        for row in [row for row, _ in cases(419, 120, 5) if merged(row)[1]] + [ODD, ENOUGH, doubled(ADD)]:
            never = sorted(merged(row)[1])
            accepted += len(never) > 1
            for _ in range(5):
                some = tuple(sorted(source.sample(never, source.randint(1, len(never)))))
                self.judges(self.judge(row), ("never", some), is_right(row, ("never", some)))
        self.assertGreater(accepted, 10)
        self.judges(self.judge(ODD), ("never", ()), False)
        self.judges(self.judge(copied(1)), ("never", ()), False)
        self.judges(self.judge(ADD), ("never", ((0, 1),)), False)
        for pairs in (((1, 0),), ((0, 1), (0, 1)), ((0, 0),), ((0, 1, 1),), ((0,),), ((0, True),), ((False, 1),), [(0, 1)], ([0, 1],),
                      ((0, 2),), ((-1, 0),), ((0, 10 ** 200),), None, 0, "01", ((0, 1), None)):
            self.judges(self.judge(ODD), ("never", pairs), False)

    def test_smaller_papers_of_others(self):
        row = Row(((0, 0), (1, 1), (2, 3), (3, 2)), ((0, 0),), ((("0", "0"),),) * 4)
        for pairs, wanted in ((((0, 1),), True), (((2, 3),), True), (((0, 1), (2, 3)), True), (((0, 2), (0, 3)), True), (((0, 2),), False),
                              (((2, 3), (0, 1)), False), (((0, 1), (0, 2), (0, 3), (1, 2), (1, 3), (2, 3)), True)):
            self.judges(self.judge(row), ("never", pairs), wanted)

    def test_tuples_that_are_no_pairs(self):
        row = Row(((0, 0), (1, 1), (2, 2)), ((0, 0),), ((("0", "0"),),) * 3)
        for pairs, wanted in ((((0, 1),), True), (((0, 1, 2),), False), (((0,),), False), (((),), False), (((0, 1), (0, 1, 2)), False),
                              (((0, 1), (1, 2)), True)):
            self.judges(self.judge(row), ("never", pairs), wanted)

    def test_spoiled_papers(self):
        for row in (ODD, ADD, BACKWARD, copied(1), Row(((0, 0), (1, 1), (2, 2)), ((0, 0),), ((("0", "0"),),) * 3)):
            for value in spoiled(reset_paper(row)):
                self.judges(self.judge(row), value, is_right(row, value))
            for value in KINDS + (("resets",), ("never",), ("resets", ("",), ()), ("Never", ((0, 1),)), (True, ((0, 1),))):
                self.judges(self.judge(row), value, False)

    def test_equal_calls(self):
        for row in READY + some_rows(421, 10):
            self.holds(reset_paper(row), reset_paper(row))
            self.holds([reset_input(row), open_inputs(row, 9)], [reset_input(row), open_inputs(row, 9)])

    def test_rows_of_rows(self):
        for row in (behind(times(3), times(5)), together(later("0"), negated()), behind(ADD, negated()), together(ODD, negated())):
            self.assertTrue(is_right(row, reset_paper(row)))
            self.assertIs(reset_paper(row)[0] == "resets", reset_input(row) is not None)
