"""Broken cells: 0.2, 0.4 to 0.6, 0.19, 0.20, 18.1, 18.2 and stage 18."""

import itertools
import random

from slicerows.base.bits import is_input
from slicerows.errors import InvalidFault, InvalidInput, InvalidNumber, InvalidOperation, InvalidRow
from slicerows.faults.faults import all_faults, broken_output, fault_paper, fault_places, faults_found, finding_input, finds
from slicerows.faults.faults import is_fault, is_fault_paper
from slicerows.judge.least import least_row
from slicerows.numbers.conditions import Condition
from slicerows.numbers.decided import row_of
from slicerows.rows.joined import behind, repeated, together
from slicerows.rows.ready import copied, greater, last, later, lowest, negated, picked, subtracted, times
from slicerows.rows.rows import Row, reached, row_with
from tests.helpers import ADD, AGAIN, HALF, KINDS, ODD, TOP, Checks, all_words, cell_columns, deep, doubled, not_inputs
from tests.helpers import not_numbers, not_rows, output_words, place_of, poor_tables, random_tables, same, spoiled, wide_row

CARRY = ("on", 0, "00", 1)
# All that is behind the first column makes 0, so a wrong signal there is never found.
QUIET = Row(((1, 2), (1, 1), (2, 2), (3, 0)), ((0, 0),), ((("0", "1"),), (("0", "0"),), (("0", "0"),), (("1", "0"),)))
READY = [ADD, AGAIN, negated(), subtracted(), times(3), later("1"), greater(), lowest(), copied(1), copied(3), picked(1, (0, 0)),
         QUIET, Row(AGAIN.on + ((1, 2, 0, 3),), AGAIN.back, AGAIN.out + ((("0", "0", "0", "1"),),))]


def some_leftward(seed, many, most=4):
    """Rows from the left of one to three lines."""
    source = random.Random(seed)
    found = []
    for at in range(many):
        make = poor_tables if at % 2 else random_tables
        lines = source.choice((1, 1, 1, 2, 2, 3))
        found.append(Row(*make(source, source.randint(1, most), 1, lines, source.randint(1, 3))))
    return found


def small_width(row):
    """A width at which all inputs are looked at."""
    return {1: 4, 2: 3, 3: 2}[row.inputs]


def broken(row, fault, words, place):
    """The output of a row whose cell at a place has another table, straight from 18.1."""
    kind, signal, column, wrong = fault
    left = 0
    made = []
    for at, told in enumerate(cell_columns(words)):
        on, out = row.on[left][place_of(told)], row.out[left][0][place_of(told)]
        if at == place and left == signal and told == column:
            on, out = (wrong, out) if kind == "on" else (on, wrong)
        made.append(out)
        left = on
    return tuple(["".join([column[line] for column in made]) for line in range(row.outputs)])


def every_fault(row):
    """All faults, by trying all that could be one."""
    told = [column[0] for column in all_words(1, row.inputs)]
    made = [column[0] for column in all_words(1, row.outputs)]
    found = []
    for signal, column in itertools.product(range(row.lefts), told):
        found += [("on", signal, column, wrong) for wrong in range(row.lefts)
                  if row.with_on(signal, column, wrong) != row]
        found += [("out", signal, column, wrong) for wrong in made if row.with_out(signal, 0, column, wrong) != row]
    return sorted(found)


def finders(row, fault, width):
    """The pairs of an input of a width and a place that find a fault, by looking at all."""
    return [(words, place) for words in all_words(row.inputs, width) for place in range(width)
            if broken(row, fault, words, place) != output_words(row, words)]


def is_right(row, fault, value):
    """Whether a value is a paper, straight from stage 18."""
    if type(value) is not tuple or len(value) != 3:
        return False
    kind, signal, column, wrong = fault
    if same(value[0], "found"):
        _, words, place = value
        if not is_input(row.inputs, words) or type(place) is not int or not 0 <= place < len(words[0]):
            return False
        return broken(row, fault, words, place) != output_words(row, words)
    if not same(value[0], "never"):
        return False
    _, signals, pairs = value
    every = range(row.lefts)
    if type(signals) is not tuple or type(pairs) is not tuple or not all([type(p) is int and p in every for p in signals]):
        return False
    if list(signals) != sorted(set(signals)) or 0 not in signals:
        return False
    if not all([led in signals for p in signals for led in row.on[p]]):
        return False
    if signal not in signals:
        return pairs == ()
    for both in pairs:
        if type(both) is not tuple or len(both) != 2 or not all([type(p) is int and p in every for p in both]):
            return False
    if kind != "on" or list(pairs) != sorted(set(pairs)) or (row.on[signal][place_of(column)], wrong) not in pairs:
        return False
    return all([(row.on[one][place], row.on[other][place]) in pairs and row.out[one][0][place] == row.out[other][0][place]
                for one, other in pairs for place in range(len(row.on[0]))])


def not_faults(row):
    """Values that are no faults of a row."""
    return list(KINDS) + [
        ("on", 0, "00", row.on[0][0]), ("out", 0, "00", row.out[0][0][0]), ("on", 0, "00"), ("on", 0, "00", 1, 1), ("on", 9, "00", 1),
        ("on", -1, "00", 1), ("on", True, "00", 1), ("on", 0, "00", True), ("on", 0, "0", 1), ("on", 0, 0, 1), ("on", 0, "00", row.lefts),
        ("off", 0, "00", "1"), (None, 0, "00", "1"), ("on", 2, "00", 1), ("on", 3, "00", 1), ("out", 2, "00", "1"), ("on", 0, "00", -1), ("on", 0, "00", 10 ** 200), ("off", 0, "00", 1), ("out", 0, "00", 1), ("on", 0, "00", "1"), ("out", 0, "00", "11"),
        ("out", 0, "00", ""), ["on", 0, "00", 1], (("on", 0, "00", 1),), (None, 0, "00", 1), ("on", 0, "0a", 1), ("On", 0, "00", 1), deep("on", 4)]


SOME = some_leftward(501, 40) + READY


class Faults(Checks):
    def test_all_faults(self):
        for row in SOME + some_leftward(502, 12, 8):
            found = all_faults(row)
            self.holds(list(found), every_fault(row))
            many, made = len(row.on[0]), 2 ** row.outputs
            self.holds(len(found), row.lefts * many * (row.lefts - 1 + made - 1))
            self.assertTrue(all([is_fault(row, fault) for fault in found]))
        self.holds([len(all_faults(ADD)), len(all_faults(copied(1))), len(all_faults(wide_row(503, 60, 1, 3, 3)))],
                   [16, 2, 60 * 8 * 66])

    def test_what_is_no_fault(self):
        for value in not_faults(ADD):
            self.judges(lambda value: is_fault(ADD, value), value, False)
        for value in spoiled(CARRY):
            right = value in all_faults(ADD) and any([same(value, fault) for fault in all_faults(ADD)])
            self.judges(lambda value: is_fault(ADD, value), value, right)
        self.holds([is_fault(AGAIN, CARRY), is_fault(AGAIN, ("on", 0, "00", 2)), is_fault(AGAIN, ("on", 0, "11", 1)),
                    is_fault(copied(1), CARRY), is_fault(picked(1, (0, 0)), ("out", 0, "1", "01"))], [True, True, False, False, True])

    def test_rows_that_do_not_go_from_the_left(self):
        words = ("0",)
        for row in (HALF, TOP, ODD, last(), ~ADD, wide_row(504, 1, 60, 1, 1), doubled(HALF)):
            for value in KINDS[::6] + (CARRY,):
                for call, given in ((is_fault, (value,)), (broken_output, (value, value, value)), (finds, (value, words, value)),
                                    (finding_input, (value,)), (fault_places, (value, value)), (faults_found, (value,)),
                                    (fault_paper, (value,)), (is_fault_paper, (value, value))):
                    self.refuses(InvalidOperation, call, row, *given)
            self.refuses(InvalidOperation, all_faults, row)
        # A row that is alike goes from the left, but it is not passed.
        self.refuses(InvalidOperation, all_faults, doubled(ADD).with_back(0, "00", 1))
        self.holds(len(all_faults(least_row(doubled(ADD)))), 16)

    def test_errors(self):
        self.checks_in_order(all_faults, (ADD, InvalidRow, not_rows()))
        for wrong in not_rows():
            for value in KINDS[::6]:
                self.refuses(InvalidRow, is_fault, wrong, value)
                self.refuses(InvalidRow, is_fault_paper, wrong, value, value)
        told = ((ADD, InvalidRow, not_rows()), (CARRY, InvalidFault, not_faults(ADD)))
        for call in (finding_input, fault_paper):
            self.checks_in_order(call, *told)
        self.checks_in_order(fault_places, *told, (3, InvalidNumber, not_numbers(0, 400)))
        self.checks_in_order(faults_found, told[0], (("01", "00"), InvalidInput, not_inputs(2)))
        for call in (broken_output, finds):
            self.checks_in_order(call, *told, (("010", "001"), InvalidInput, not_inputs(2)), (1, InvalidNumber, not_numbers(0, 2)))
            self.refuses((InvalidNumber, 0), call, ADD, CARRY, ("", ""), 0)
        for wrong in not_faults(ADD):
            self.refuses(InvalidFault, is_fault_paper, ADD, wrong, None)


class Broken(Checks):
    def test_against_a_row_made_by_hand(self):
        source = random.Random(505)
        for row in SOME:
            faults = list(all_faults(row))
            for fault in source.sample(faults, min(len(faults), 12)):
                for width in range(1, small_width(row) + 1):
                    for words in source.sample(all_words(row.inputs, width), 2):
                        for place in range(width):
                            wanted = broken(row, fault, words, place)
                            self.holds(broken_output(row, fault, words, place), wanted)
                            self.holds(finds(row, fault, words, place), wanted != output_words(row, words))

    def test_known_rows(self):
        self.holds([broken_output(ADD, CARRY, ("000", "000"), place) for place in (0, 1, 2)], [("010",), ("001",), ("000",)])
        self.holds(broken_output(ADD, ("out", 1, "00", "0"), ("100", "100"), 1), ("000",))
        self.holds(broken_output(picked(1, (0, 0)), ("out", 0, "1", "01"), ("11",), 0), ("01", "11"))

    def test_wide(self):
        words = ("0" * 4000, "0" * 4000)
        self.holds([broken_output(ADD, CARRY, words, 3998)[0][-2:], finds(ADD, CARRY, words, 3999), finds(ADD, CARRY, words, 0)],
                   ["01", False, True])

    def test_all_that_an_input_finds(self):
        for row in SOME:
            for words in all_words(row.inputs, small_width(row))[::7] + all_words(row.inputs, 0) + all_words(row.inputs, 1):
                wanted = [(fault, place) for fault in all_faults(row) for place in range(len(words[0]))
                          if broken(row, fault, words, place) != output_words(row, words)]
                self.holds(faults_found(row, words), tuple(wanted))

    def test_the_last_place(self):
        for row in SOME:
            words = ("01",) * row.inputs
            self.assertTrue(all([place == 0 for fault, place in faults_found(row, words) if fault[0] == "on"]))
        self.holds(faults_found(ADD, ("1", "1")), ((("out", 0, "11", "1"), 0),))

    def test_all_that_a_wide_input_finds(self):
        found = faults_found(ADD, ("01" * 2000, "10" * 2000))
        self.holds([found[0], found[-1], len(found)], [(("on", 0, "01", 1), 0), (("out", 0, "10", "0"), 3999), 7999])
        row = wide_row(506, 60, 1, 1, 1)
        found = faults_found(row, ("0110" * 10,))
        self.assertTrue(list(found) == sorted(found) and len(found) > 40)
        for fault, place in found[::97]:
            self.holds(finds(row, fault, ("0110" * 10,), place), True)


class Finding(Checks):
    def test_against_all_inputs(self):
        source = random.Random(507)
        found = {True: 0, False: 0}
        for row in SOME:
            faults = list(all_faults(row))
            for fault in source.sample(faults, min(len(faults), 10)):
                both = finding_input(row, fault)
                found[both is None] += 1
                widths = [width for width in range(small_width(row) + 1) if finders(row, fault, width)]
                if both is None or len(both[0][0]) > small_width(row):
                    self.holds(widths, [])
                else:
                    self.holds(len(both[0][0]), widths[0])
                if both is not None:
                    self.assertTrue(type(both) is tuple and is_input(row.inputs, both[0]))
                    self.holds(finds(row, fault, *both), True)
        self.assertGreater(min(found.values()), 30)

    def test_places(self):
        source = random.Random(508)
        for row in SOME:
            faults = list(all_faults(row))
            for fault in source.sample(faults, min(len(faults), 10)):
                for width in range(small_width(row) + 1):
                    wanted = sorted({place for _, place in finders(row, fault, width)})
                    self.holds(fault_places(row, fault, width), tuple(wanted))

    def test_wide_places(self):
        self.holds(fault_places(ADD, CARRY, 400), tuple(range(399)))
        self.holds(fault_places(ADD, ("out", 1, "00", "0"), 400), tuple(range(1, 400)))
        ring = row_with(tuple([((at + 1) % 7,) * 2 for at in range(7)]), ((0, 0),), ((("0", "1"),),) + ((("0", "0"),),) * 6)
        self.holds(fault_places(ring, ("out", 3, "0", "1"), 400), tuple(range(3, 400, 7)))
        self.holds(fault_places(ring, ("on", 3, "0", 0), 400), tuple(range(3, 396, 7)))
        self.holds([fault_places(ADD, CARRY, width) for width in (0, 1, 2)], [(), (), (0,)])

    def test_not_each_place(self):
        # 0.20: a fault that can be found at some place can be found at each place.
        row = Row(((1, 1), (1, 1)), ((0, 0),), ((("0", "0"),), (("0", "1"),)))
        self.holds([fault_places(row, ("out", 0, "0", "1"), 5), fault_places(row, ("out", 1, "0", "1"), 5)], [(0,), (1, 2, 3, 4)])

    def test_faults_that_are_never_found(self):
        # Not reached; both signals of one class; and both at once.
        for fault in (("out", 3, "0", "0"), ("on", 0, "0", 2), ("on", 1, "1", 2), ("on", 3, "1", 1), ("on", 3, "0", 1)):
            self.assertTrue(is_fault(QUIET, fault))
            self.holds([finding_input(QUIET, fault), fault_places(QUIET, fault, 400), fault_paper(QUIET, fault)[0]], [None, (), "never"])
        for fault in (("on", 0, "0", 0), ("on", 0, "1", 3), ("out", 2, "0", "1")):
            self.assertTrue(finding_input(QUIET, fault) is not None)

    def test_exactly_those(self):
        # 18.2, by classes that all ends of a width of as many cells as there are signals tell apart.
        for row in some_leftward(509, 24, 3):
            ends = all_words(row.inputs, row.lefts)
            views = [[tail(row, signal, words) for words in ends] for signal in range(row.lefts)]
            for fault in all_faults(row):
                kind, signal, column, wrong = fault
                right = row.on[signal][place_of(column)]
                wanted = signal in reached(row) and (kind == "out" or views[right] != views[wrong])
                self.assertIs(finding_input(row, fault) is not None, wanted)

    def test_least_rows(self):
        for row in SOME:
            small = least_row(row)
            for fault in all_faults(small):
                self.assertTrue(finding_input(small, fault) is not None)

    def test_rows_of_rows(self):
        far = repeated(later("0"), 5)
        for row in (behind(times(3), times(5)), together(ADD, subtracted()), row_of(Condition("rest", (1,), 0, modulus=7)), far):
            for fault in all_faults(row)[::17]:
                self.holds(finds(row, fault, *finding_input(row, fault)), True)
        self.holds(len(finding_input(far, ("on", 31, "1", 30))[0][0]), 5 + 1 + 5)


def tail(row, signal, words):
    """The output columns for an end whose first cell gets a signal."""
    made = []
    for column in cell_columns(words):
        made.append(row.out[signal][0][place_of(column)])
        signal = row.on[signal][place_of(column)]
    return made


class Papers(Checks):
    def judge(self, row, fault):
        return lambda value: is_fault_paper(row, fault, value)

    def test_papers(self):
        source = random.Random(511)
        forms = {"found": 0, "never": 0}
        for row in SOME:
            faults = list(all_faults(row))
            for fault in source.sample(faults, min(len(faults), 14)):
                paper = fault_paper(row, fault)
                forms[paper[0]] += 1
                self.assertTrue(is_right(row, fault, paper))
                self.judges(self.judge(row, fault), paper, True)
                if paper[0] == "found":
                    self.holds(paper[1:], finding_input(row, fault))
                else:
                    self.holds([paper[1], finding_input(row, fault)], [reached(row), None])
        self.assertGreater(min(forms.values()), 40)

    def test_other_inputs(self):
        judge = self.judge(ADD, CARRY)
        for words, place, wanted in ((("00", "01"), 0, True), (("000", "000"), 1, True), (("000", "000"), 2, False), (("00", "00"), 1, False),
                                     (("0" * 4000, "0" * 4000), 3998, True), (("0" * 4001, "0" * 4001), 0, False), (("10", "00"), 0, False),
                                     (("00", "01"), True, False), (("00", "01"), False, False), (("00", "01"), -2, False),
                                     (("00", "01"), 2, False), (("00", "01"), 10 ** 200, False), (("00", "01"), None, False), (("00",), 0, False),
                                     (["00", "00"], 0, False), (("00", "000"), 0, False), (("", ""), 0, False), ("00", 0, False)):
            self.judges(judge, ("found", words, place), wanted)

    def test_other_signals_and_pairs(self):
        same_class = ("on", 0, "00", 2)
        pairs = ((0, 0), (0, 2), (1, 1), (2, 2))
        for signals, told, wanted in (((0, 1, 2), pairs, True), ((0, 1, 2), pairs[1:], False), ((0, 1, 2), pairs[::-1], False),
                                      ((0, 1, 2), ((0, 0), (0, 2), (1, 1), (2, 0), (2, 2)), True), ((0, 1, 2), pairs + pairs[3:], False),
                                      ((0, 1), pairs, False), ((1, 2), pairs, False), ((0, 1, 1, 2), pairs, False), ((2, 1, 0), pairs, False),
                                      ((0, 1, 2), (), False), ((0, 1, 2, 3), pairs, False), ((0, True, 2), pairs, False),
                                      ((0, 1, 2), ((0, 0), (0, 1), (0, 2), (1, 1), (2, 2)), False), ([0, 1, 2], pairs, False),
                                      ((0, 1, 2), list(pairs), False), ((0, 1, 2), ((0, 2), (1, True), (2, 2)), False)):
            value = ("never", signals, told)
            self.holds(is_right(AGAIN, same_class, value), wanted)
            self.judges(self.judge(AGAIN, same_class), value, wanted)
        self.judges(self.judge(ADD, CARRY), ("never", (0, 1), ((0, 1),)), False)
        self.judges(self.judge(ADD, CARRY), ("never", (0, 1), ((0, 0), (0, 1), (1, 1))), False)

    def test_signals_that_are_not_reached(self):
        for fault in (("out", 3, "0", "0"), ("on", 3, "1", 1), ("on", 3, "0", 1)):
            for signals, pairs, wanted in (((0, 1, 2), (), True), ((0, 1, 2), ((0, 0),), False), ((0, 1), (), False), ((0, 1, 2), [], False),
                                           ((0, 1, 2, 3), (), False), ((0, 1, 2), None, False), ((0, 1, 2), 0, False), ((), (), False)):
                self.judges(self.judge(QUIET, fault), ("never", signals, pairs), wanted)
        # A signal more than the reached ones calls for pairs.
        fault = ("on", 3, "0", 1)
        row = Row(QUIET.on[:3] + ((2, 0),), QUIET.back, QUIET.out)
        self.judges(self.judge(row, fault), ("never", (0, 1, 2, 3), ((1, 1), (2, 1), (2, 2))), True)
        self.judges(self.judge(row, fault), ("never", (0, 1, 2, 3), ((2, 1),)), True)
        self.judges(self.judge(row, fault), ("never", (0, 1, 2, 3), ((1, 2),)), False)
        self.judges(self.judge(row, fault), ("never", (0, 1, 2, 3), ()), False)
        self.judges(self.judge(row, ("out", 3, "0", "0")), ("never", (0, 1, 2, 3), ()), False)

    def test_spoiled_papers(self):
        for row, fault in ((ADD, CARRY), (AGAIN, ("on", 0, "00", 2)), (QUIET, ("out", 3, "0", "0")), (QUIET, ("on", 0, "0", 2)),
                           (copied(1), ("out", 0, "1", "0"))):
            for value in spoiled(fault_paper(row, fault)):
                self.judges(self.judge(row, fault), value, is_right(row, fault, value))
            for value in KINDS + (("found",), ("never",), ("found", ("0",)), ("never", (0,)), ("Found", ("00", "01"), 0),
                                  fault_paper(row, fault) + (0,), list(fault_paper(row, fault))):
                self.judges(self.judge(row, fault), value, False)

    def test_equal_calls(self):
        for row in READY[:8]:
            for fault in all_faults(row)[::9]:
                self.holds([fault_paper(row, fault), finding_input(row, fault)], [fault_paper(row, fault), finding_input(row, fault)])
            self.holds(all_faults(row), all_faults(row))
