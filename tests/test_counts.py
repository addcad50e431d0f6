"""Counts of inputs, outputs and bits 1: 0.4, 1.3 and stage 12."""

import random

from slicerows.base.bits import is_input
from slicerows.counts.counts import MAX_SETS, input_for, inputs_for, inputs_making, inputs_with, ones_of, outputs_of
from slicerows.errors import InvalidCondition, InvalidInput, InvalidNumber, InvalidOperation, InvalidRow, TooMany
from slicerows.numbers.conditions import Condition
from slicerows.rows.joined import behind, beside, together
from slicerows.rows.ready import copied, filled, gate, greater, last, later, negated, parity, picked, sooner, times
from slicerows.rows.rows import Row, row_with
from tests.helpers import ADD, AGAIN, HALF, ODD, TOP, Checks, all_words, doubled, not_conditions, not_inputs
from tests.helpers import not_numbers, not_rows, output_words, some_rows, wide_row
from tests.test_conditions import holds_for, some_conditions
from tests.test_decided import LOW, REACHED, columns_of
from tests.test_meaning import SUM, copying, some_cases

EVEN = Condition("rest", (1,), 0, modulus=2)
SOME = some_rows(141, 30, 3) + some_rows(142, 12, 3, 2, 1) + some_rows(143, 12, 3, 1, 2) + some_rows(144, 4, 2, 2, 2)
READY = [ADD, AGAIN, HALF, TOP, ODD, last(), later("0"), sooner("1"), negated(), times(3), copied(2), filled(), greater(),
         picked(2, (1, 0, 1)), gate(3, "01101001"), together(TOP, later("1")), ~ADD]


def widest(row):
    """A width up to which all inputs of a row are looked at."""
    return {1: 5, 2: 3, 3: 2}[row.inputs]


def all_outputs(row, width):
    """The outputs of all inputs of a width."""
    return [output_words(row, words) for words in all_words(row.inputs, width)]


def rings(sizes, ahead=0):
    """A row from the left that follows three rings beside each other, each turned by an output column of its own.

    So there is a left set for each place of all rings at once, one for the start, the empty one, and one for each
    cell more that goes ahead.
    """
    start = ahead
    heads = [start + 1 + sum(sizes[:at]) for at in range(len(sizes))]
    labels = ("00", "01", "10", "11")
    on = [(at + 1,) * 8 for at in range(ahead)]
    out = [("00",) * 8] * ahead
    on.append(tuple([heads[place] if place < len(sizes) else heads[0] for place in range(8)]))
    out.append(("00",) * 8)
    for at, (head, size) in enumerate(zip(heads, sizes)):
        for place in range(size):
            turned = head + (place + 1) % size
            on.append(tuple([turned if label % 4 == at else head + place for label in range(8)]))
            out.append(tuple([labels[label % 4] for label in range(8)]))
    return row_with(tuple(on), ((0,) * 8,), tuple([(line,) for line in out]))


def left_sets(row, limit=10 ** 9):
    """The left sets to which output columns lead the first one, straight from stage 12."""
    start = frozenset([(0, right) for right in range(row.rights)])
    queue = [start]
    seen = {start}
    steps = {}
    for left, line in enumerate(row.on):
        for place, ahead in enumerate(line):
            for right, handed in enumerate(row.back):
                key = (left, handed[place], row.out[left][right][place])
                steps.setdefault(key, []).append((ahead, right))
    for pairs in queue:
        for column in columns_of(row.outputs):
            found = frozenset([led for left, right in pairs for led in steps.get((left, right, column), [])])
            if found not in seen and len(seen) <= limit:
                seen.add(found)
                queue.append(found)
    return queue


class Inputs(Checks):
    def test_conditions_against_all_inputs(self):
        for condition in some_conditions(145, 60, 1) + some_conditions(146, 40, 2, 2) + some_conditions(147, 8, 3, 1):
            for width in range({1: 6, 2: 4, 3: 3}[condition.lines]):
                wanted = [holds_for(condition, words) for words in all_words(condition.lines, width)].count(True)
                self.holds(inputs_with(condition, width), wanted)

    def test_rows_against_all_inputs(self):
        for row, condition in some_cases(148, 120):
            for width in range(widest(row)):
                wanted = [holds_for(condition, words + output_words(row, words))
                          for words in all_words(row.inputs, width)].count(True)
                self.holds(inputs_making(row, condition, width), wanted)

    def test_width_none(self):
        self.holds([inputs_with(LOW, 0), inputs_with(~LOW, 0), inputs_with(Condition("wrapped", (1,), 5), 0),
                    inputs_with(Condition("equal", (1,), 1), 0)], [1, 0, 1, 0])
        self.holds([inputs_making(ADD, SUM, 0), inputs_making(ADD, ~SUM, 0), inputs_making(ODD, EVEN_SUM, 0)], [1, 0, 1])

    def test_wide(self):
        self.holds([inputs_with(LOW, 400), inputs_with(EVEN, 400), inputs_with(~LOW, 400)], [4, 2 ** 399, 2 ** 400 - 4])
        self.holds(inputs_with(Condition("equal", (1, 1), 2 ** 400 - 1), 400), 2 ** 400)
        self.holds(inputs_with(Condition("most", (1,), -1, kind="signed"), 400), 2 ** 399)
        self.holds(inputs_with(Condition("rest", (1,), 0, modulus=3), 400), (2 ** 400 - 1) // 3 + 1)
        self.holds(inputs_with(Condition("most", (1,) * 6, 5), 400), 462)
        self.holds(inputs_making(ADD, SUM, 400), (4 ** 400 + 2 ** 400) // 2)
        self.holds(inputs_making(HALF, Condition("rest", (1, 1), 0, modulus=1), 400), 2 ** 400)
        self.holds(inputs_making(ODD, EVEN_SUM, 400), 2 ** 399)

    def test_rows_from_the_right(self):
        for row in (HALF, TOP, ~ADD, last(), doubled(HALF)):
            always = Condition("rest", (1,) * (row.inputs + 1), 0, modulus=1)
            for width in (0, 1, 5, 30):
                self.holds([inputs_making(row, always, width), inputs_making(row, ~always, width)],
                           [2 ** (width * row.inputs), 0])

    def test_just_enough_states_and_more(self):
        whole = 2 ** 3
        self.holds(inputs_with(REACHED[4000], 3), whole)
        self.holds(inputs_making(copied(1), copying(REACHED[4000]), 3), whole)
        for width in (0, 3, 400):
            self.refuses(TooMany, inputs_with, REACHED[4001], width)
            self.refuses(TooMany, inputs_making, copied(1), copying(REACHED[4001]), width)
        with self.assertRaises(TooMany) as caught:
            inputs_with(REACHED[4001], 0)
        self.holds(caught.exception.limit, 4000)

    def test_errors(self):
        widths = (3, InvalidNumber, not_numbers(0, 400))
        self.checks_in_order(inputs_with, (LOW, InvalidCondition, not_conditions()), widths)
        self.checks_in_order(inputs_making, (ADD, InvalidRow, not_rows()), (SUM, InvalidCondition, not_conditions()), widths)
        self.refuses((InvalidNumber, 401), inputs_with, REACHED[4001], 401)
        self.refuses((InvalidNumber, -1), inputs_making, HALF, SUM, -1)
        for row, condition in ((HALF, SUM), (ADD, LOW), (copied(3), SUM), (ADD, copying(REACHED[4001]))):
            self.refuses(InvalidOperation, inputs_making, row, condition, 3)


EVEN_SUM = Condition("rest", (1, 0), 0, modulus=2)


class Outputs(Checks):
    def test_inputs_of_outputs(self):
        for row in SOME + READY:
            for width in range(widest(row)):
                made = all_outputs(row, width)
                for words in all_words(row.outputs, width):
                    self.holds(inputs_for(row, words), made.count(words))
                    found = input_for(row, words)
                    if words in made:
                        self.assertTrue(is_input(row.inputs, found))
                        self.holds(output_words(row, found), words)
                    else:
                        self.holds(found, None)

    def test_width_none(self):
        for row in READY:
            empty = ("",) * row.outputs
            self.holds([inputs_for(row, empty), input_for(row, empty), outputs_of(row, 0), ones_of(row, 0)],
                       [1, ("",) * row.inputs, 1, (0,) * row.outputs])

    def test_wide(self):
        words = ("0110" * 1000,)
        self.holds(inputs_for(ADD, words), 2 ** 4000)
        self.holds(output_words(ADD, input_for(ADD, words)), words)
        self.holds([inputs_for(HALF, words), inputs_for(sooner("1"), words)], [2, 0])
        self.holds([inputs_for(ODD, ("1" * 300,)), inputs_for(ODD, ("10" * 150,))], [2 ** 299, 0])
        found = input_for(TOP, ("0" * 3000 + "1" + "0" * 999,))
        self.holds([found[0][3000:], len(found[0])], ["1" + "0" * 999, 4000])
        self.holds(input_for(last(), ("0" * 399 + "1",)), None)

    def test_rows_with_many_signals(self):
        row = behind(times(8), times(7))
        self.holds([row.lefts, inputs_for(row, ("0001" * 10,)), outputs_of(row, 30)], [56, 8, 2 ** 27])
        row = beside(together(last(), HALF), copied(1))
        self.holds(row(input_for(row, ("000", "100", "101"))), ("000", "100", "101"))
        row = wide_row(149, 60, 60, 1, 1)
        for words in all_words(1, 3):
            self.holds(inputs_for(row, words), all_outputs(row, 3).count(words))

    def test_outputs(self):
        for row in SOME + READY:
            for width in range(widest(row) + 1):
                self.holds(outputs_of(row, width), len(set(all_outputs(row, width))))
        self.holds([outputs_of(TOP, 400), outputs_of(ADD, 400), outputs_of(last(), 400), outputs_of(copied(3), 400)],
                   [401, 2 ** 400, 2, 8 ** 400])

    def test_just_enough_sets(self):
        self.holds(MAX_SETS, 2000)
        row = rings((37, 9, 6))
        sets = left_sets(row)
        self.holds([len(sets), frozenset() in sets], [2000, True])
        self.holds(outputs_of(row, 3), len(set(all_outputs(row, 3))))

    def test_too_many_sets(self):
        for row in (rings((37, 9, 6), ahead=1), rings((20, 10, 10))):
            many = len(left_sets(row, 2100))
            self.assertGreater(many, 2000)
            for width in (0, 1, 400):
                with self.assertRaises(TooMany) as caught:
                    outputs_of(row, width)
                self.holds(caught.exception.limit, 2000)
        self.holds(len(left_sets(rings((37, 9, 6), ahead=1))), 2001)

    def test_ones(self):
        for row in SOME + READY:
            for width in range(widest(row) + 1):
                made = all_outputs(row, width)
                self.holds(ones_of(row, width), tuple([sum([words[line].count("1") for words in made])
                                                       for line in range(row.outputs)]))
        self.holds([ones_of(copied(2), 400), ones_of(ODD, 400), ones_of(TOP, 400)],
                   [(400 * 2 ** 799,) * 2, (400 * 2 ** 399,), (2 ** 400 - 1,)])
        row = wide_row(151, 60, 60, 2, 3)
        made = all_outputs(row, 2)
        self.holds(ones_of(row, 2), tuple([sum([words[line].count("1") for words in made]) for line in range(3)]))

    def test_rows_with_needless_signals(self):
        for row in SOME[:12] + READY[:6]:
            more = doubled(row)
            for width in (0, 1, 3):
                self.holds(ones_of(more, width), ones_of(row, width))
                if row.lefts * row.rights < 5:
                    self.holds(outputs_of(more, width), outputs_of(row, width))
                words = ("010"[:width],) * row.outputs
                self.holds(inputs_for(more, words), inputs_for(row, words))

    def test_errors(self):
        widths = (3, InvalidNumber, not_numbers(0, 400))
        for call in (outputs_of, ones_of):
            self.checks_in_order(call, (ADD, InvalidRow, not_rows()), widths)
        self.refuses((InvalidNumber, 401), outputs_of, rings((20, 10, 10)), 401)
        for call in (inputs_for, input_for):
            for row, words in ((ADD, ("01",)), (picked(1, (0, 0)), ("01", "00")), (copied(3), ("0", "1", "1"))):
                self.checks_in_order(call, (row, InvalidRow, not_rows()), (words, InvalidInput, not_inputs(row.outputs)))
            self.refuses(InvalidInput, call, ADD, ("01", "00"))
            self.refuses(InvalidInput, call, picked(1, (0, 0)), ("01",))

    def test_equal_calls(self):
        for row in (ADD, TOP, parity()):
            self.holds([input_for(row, ("000",)), outputs_of(row, 5)], [input_for(row, ("000",)), outputs_of(row, 5)])
        self.assertTrue(Row(ADD.on, ADD.back, ADD.out) == ADD)
