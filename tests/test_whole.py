"""The whole program: rows of many signals everywhere, and the main statements 0.14 to 0.20."""

import itertools
import random

from slicerows.back.back import cycle_length, is_undone, undoing
from slicerows.back.onto import is_onto, is_onto_paper, left_set, missing_output, onto_paper
from slicerows.back.pairs import is_one_paper, is_one_to_one, one_paper, same_inputs
from slicerows.counts.counts import input_for, inputs_for, inputs_making, ones_of, outputs_of
from slicerows.desk.desk import Workshop
from slicerows.errors import InvalidOperation
from slicerows.far.programs import Program, far_column, far_left, far_ones, far_rest, far_right
from slicerows.faults.faults import all_faults, broken_output, fault_paper, fault_places, faults_found, finding_input, finds
from slicerows.faults.faults import is_fault, is_fault_paper
from slicerows.faults.lots import are_tests_bounded, complete_lot, is_complete, is_test_paper, lot_limit, missed
from slicerows.faults.lots import test_paper as paper_of_tests
from slicerows.judge.alike import alike_paper, are_alike, is_alike_paper, left_pairs, right_pairs, unlike_input
from slicerows.judge.least import fewest_paper, is_fewest_paper, is_least, least_row, left_classes, parting_beginning, parting_end
from slicerows.judge.least import right_classes
from slicerows.judge.sides import from_left, goes_left, goes_right, is_needs_paper, needs_paper, span
from slicerows.numbers.conditions import Condition
from slicerows.numbers.decided import is_implied, row_of
from slicerows.numbers.meaning import first_exception, is_meaning_paper, meaning_paper, means
from slicerows.rows.joined import behind, beside, repeated, together
from slicerows.rows.ready import added, copied, later, negated, picked, sooner, times
from slicerows.rows.rows import Row, reached, reached_back, row_with, way_back_to, way_to
from slicerows.text.formats import write_row
from slicerows.ticks.means import is_reset_paper, limit_time, mean_time, open_inputs, reset_input, reset_paper
from slicerows.ticks.settling import bounded_time, growth_rate, is_rate_paper, longest_time, rate_paper, settled_at, slowest_input
from tests.helpers import ADD, AGAIN, HALF, ODD, TOP, Checks, all_words, doubled, output_words, run, some_rows
from tests.test_back import two_sided
from tests.test_lots import LOST, SLIP

# Rows of more than eight signals, as joins, undoing rows and conditions make them; all are from the left.
FORTY = repeated(times(7), 2)
BACK = undoing(FORTY)
RULE = row_of(Condition("most", (13, -9), 7))
SHIFT = repeated(later("0"), 5)
MANY = [FORTY, BACK, RULE, SHIFT, row_of(Condition("rest", (1, 2), 3, modulus=17)), together(RULE, copied(2)), behind(RULE, negated())]


def ring(many, ones):
    """A row that makes a 1 at some places of a ring, whatever the columns are."""
    return Row(tuple([((at + 1) % many,) * 2 for at in range(many)]), ((0, 0),),
               tuple([((("1" if at in ones else "0"),) * 2,) for at in range(many)]))


class ManySignals(Checks):
    def test_how_many(self):
        self.holds([(row.lefts, row.rights) for row in MANY[:4]], [(49, 1), (49, 1), (22, 1), (32, 1)])
        self.assertTrue(all([row.lefts > 8 for row in MANY]))
        self.assertTrue(behind(times(8), times(7)).lefts > 50)

    def test_rows(self):
        for row in MANY + [~row for row in MANY]:
            words = ("0110100110",) * row.inputs
            self.holds(row(words), output_words(row, words))
            self.assertTrue(~~row == row and least_row(row) == row and is_least(row))
            self.holds([len(reached(row)), len(reached_back(row))], [row.lefts, row.rights])
            head, end = way_to(row, row.lefts - 1), way_back_to(row, row.rights - 1)
            self.holds([row.led(0, head), row.led_back(0, end)], [row.lefts - 1, row.rights - 1])
            self.holds([row.left_signals(words)[-1], row.right_signals(words)[0]], [row.led(0, words), row.led_back(0, words)])
            column = "1" * row.inputs
            for other in (row.with_on(row.lefts - 1, column, 0), row.with_back(row.rights - 1, column, 0),
                          row.with_out(row.lefts - 1, row.rights - 1, column, "0" * row.outputs)):
                self.holds(other(words), output_words(other, words))
            self.refuses(InvalidOperation, write_row, row)

    def test_judges(self):
        for row in MANY[:5] + [~MANY[3]]:
            self.holds([are_alike(row, doubled(row)) if row.lefts < 30 else True, unlike_input(row, row), are_alike(row, row)], [True, None, True])
            self.holds([is_alike_paper(row, row, alike_paper(row, row)), is_fewest_paper(row, fewest_paper(row))], [True, True])
            self.holds([left_pairs(row, row), right_pairs(row, row)], [tuple(zip(range(row.lefts), range(row.lefts))),
                                                                     tuple(zip(range(row.rights), range(row.rights)))])
            self.holds([left_classes(row), right_classes(row)], [tuple(range(row.lefts)), tuple(range(row.rights))])
            self.holds([goes_left(row), goes_right(row), len(span(row))], [row.rights == 1, row.lefts == 1, 2])
            paper = needs_paper(row)
            self.assertIs(paper is None, row.rights == 1)
            self.holds(is_needs_paper(row, paper), paper is not None)
            if row.rights == 1:
                self.assertTrue(from_left(row) == row)
                self.holds(row(parting_end(row, 0, row.lefts - 1))[0][:0], "")
            else:
                self.assertTrue(parting_beginning(row, 0, row.rights - 1) is not None)

    def test_rows_of_rows(self):
        for row in MANY:
            self.assertTrue(behind(row, copied(row.outputs)) == row and repeated(row, 1) == row)
            if row.inputs + row.outputs + 1 <= 4 and row.inputs < 3 and row.outputs < 3:
                self.assertTrue(behind(beside(row, copied(1)), picked(row.outputs + 1, tuple(range(row.outputs))))((("01",) * (row.inputs + 1))) == row(("01",) * row.inputs))
        self.assertTrue(behind(FORTY, BACK) == copied(1) and undoing(BACK) == FORTY)
        self.holds([is_undone(FORTY, BACK), cycle_length(FORTY, 1), is_one_to_one(FORTY), same_inputs(BACK)], [True, None, True, None])
        self.holds([is_onto(FORTY), missing_output(BACK), is_onto(RULE), is_one_to_one(RULE)], [True, None, is_onto(RULE), False])
        for row in (FORTY, RULE, ~SHIFT):
            self.holds([is_one_paper(row, one_paper(row)), is_onto_paper(row, onto_paper(row))], [True, True])
            self.holds(len(left_set(row, ("",) * row.outputs)), row.rights)

    def test_numbers_and_counts(self):
        whole = Condition("wrapped", (49, -1), 0)
        self.holds([means(FORTY, whole), first_exception(FORTY, whole), is_meaning_paper(FORTY, whole, meaning_paper(FORTY, whole))], [True, None, True])
        self.holds([inputs_making(FORTY, whole, 5), inputs_for(FORTY, ("1011",)), FORTY(input_for(FORTY, ("1011",)))], [32, 1, ("1011",)])
        self.holds([outputs_of(FORTY, 5), outputs_of(SHIFT, 6), outputs_of(~SHIFT, 6), ones_of(FORTY, 3)], [32, 2, 2, (12,)])
        far = Program.of(1, ("01",)).power(10 ** 20)
        self.holds([far_left(SHIFT, 31, far), far_right(~SHIFT, 31, far)], [SHIFT.led(31, ("010101",)), (~SHIFT).led_back(31, ("010101",))])
        self.holds([far_column(FORTY, far, 3), far_ones(SHIFT, far)], [FORTY(("0101",))[0][3], (10 ** 20 - 3,)])
        # The number is 10 at width 4, so 49 times it is 490, which is 10 modulo 16.
        self.holds(far_rest(FORTY, Program.of(1, ("0101",)), 0, 7), 3)

    def test_ticks(self):
        for row in MANY[:6]:
            delays = (1, 2) * (len(row.on[0]) // 2)
            words = ("0110",) * row.inputs
            try:
                rate = growth_rate(row, delays)
            except OverflowError:
                continue
            self.holds(is_rate_paper(row, delays, rate_paper(row, delays)), True)
            self.assertIs(bounded_time(row, delays) is None, rate[0] > 0)
            self.holds(max(settled_at(row, delays, slowest_input(row, delays, 7))), longest_time(row, delays, 7))
            self.assertLessEqual(max(settled_at(row, delays, words)), longest_time(row, delays, 4))
            self.holds([is_reset_paper(row, reset_paper(row)), (reset_input(row) is None) == (limit_time(row, delays) is None)], [True, True])
            self.holds([open_inputs(row, 0), mean_time(row, delays, 0)], [1, (0, 1)])
        self.holds([bounded_time(SHIFT, (1, 3)), limit_time(SHIFT, (1, 3))], [15, (10, 1)])

    def test_faults(self):
        for row in MANY[:5]:
            faults = all_faults(row)
            for fault in faults[:: len(faults) // 7]:
                words, place = finding_input(row, fault)
                self.holds([is_fault(row, fault), finds(row, fault, words, place), broken_output(row, fault, words, place) != row(words)], [True] * 3)
                self.assertTrue(place in fault_places(row, fault, len(words[0])) and (fault, place) in faults_found(row, words))
                self.holds([is_fault_paper(row, fault, fault_paper(row, fault)), is_test_paper(row, fault, paper_of_tests(row, fault))], [True, True])
        self.holds([are_tests_bounded(FORTY), missed(FORTY, 0, ()), is_complete(FORTY, 3, complete_lot(FORTY, 3))], [True, None, True])
        self.assertTrue(len(complete_lot(RULE, 12)) <= lot_limit(RULE))

    def test_workshops(self):
        shop = Workshop()
        for name, row in zip("abcdefg", MANY):
            shop.keep(name, row)
        shop.promise("x", ("single", "a"))
        shop.promise("y", ("means", "a", Condition("wrapped", (49, -1), 0)))
        self.holds([shop.paper("x")[0], shop.would_break("a", SHIFT), len(shop)], ["one", ("x", "y"), 7])


class Statements(Checks):
    def test_alike_at_all_widths(self):
        # 0.14: a finite table shows it, or an input that is narrower than there are pairs of signals.
        found = {True: 0, False: 0}
        for one, other in itertools.product(some_rows(951, 16, 3) + [AGAIN, ADD], repeat=2):
            if one.inputs != other.inputs or one.outputs != other.outputs:
                continue
            paper = alike_paper(one, other)
            found[paper[0] == "alike"] += 1
            if paper[0] == "alike":
                self.assertTrue(all([one(words) == other(words) for words in all_words(one.inputs, 4 if one.inputs == 1 else 2)]))
            else:
                self.assertNotEqual(one(paper[1]), other(paper[1]))
                self.assertLess(len(paper[1][0]), one.lefts * other.lefts + one.rights * other.rights)
        self.assertGreater(min(found.values()), 10)

    def test_the_least_row(self):
        # 0.15: rows that are alike have one least row, with the fewest signals of both sides at once.
        for row in some_rows(952, 30, 3) + [ADD, HALF, ODD, TOP]:
            small = least_row(row)
            for other in (doubled(row), behind(row, copied(row.outputs)), doubled(small)):
                self.assertTrue(least_row(other) == small and are_alike(row, other))
            self.assertTrue(small.lefts <= row.lefts and small.rights <= row.rights)
            self.assertTrue(is_fewest_paper(doubled(row), fewest_paper(row)))

    def test_conditions(self):
        # 0.16
        self.holds([is_implied(Condition("rest", (1,), 0, modulus=6), Condition("rest", (1,), 0, modulus=3)),
                    is_implied(Condition("rest", (1,), 0, modulus=3), Condition("rest", (1,), 0, modulus=6)), means(times(7), Condition("wrapped", (7, -1), 0))],
                   [True, False, True])
        self.assertTrue(are_alike(row_of(Condition("most", (1, -1), -1)), row_of(~Condition("most", (-1, 1), 0))))

    def test_leading_back(self):
        # 0.17: for lines as many as before, just the one-to-one rows are led back.
        for row in some_rows(953, 60, 3):
            if is_one_to_one(row):
                self.assertTrue(all([undoing(row)(row(words)) == words for words in all_words(1, 5)]))
            else:
                one, other = same_inputs(row)
                self.assertTrue(one != other and row(one) == row(other))

    def test_settling(self):
        # 0.18
        self.holds([bounded_time(SHIFT, (2, 3)), growth_rate(SHIFT, (2, 3)), bounded_time(ADD, (1,) * 4), growth_rate(ADD, (3, 7, 6, 3))], [15, (0, 1), None, (7, 1)])

    def test_broken_cells(self):
        # 0.19
        for row in (ADD, AGAIN, LOST):
            for fault in all_faults(row):
                kind, signal, column, wrong = fault
                right = row.on[signal][int(column, 2)]
                wanted = signal in reached(row) and (kind == "out" or parting_end(row, right, wrong) is not None)
                self.assertIs(finding_input(row, fault) is not None, wanted)
        self.holds([are_tests_bounded(ADD), are_tests_bounded(LOST)], [True, False])


class NotTrue(Checks):
    """Of each sentence that 0.20 says is not true an example that shows it."""

    def test_fewer_signals_of_one_side_for_more_of_the_other(self):
        source = random.Random(954)
        for row in (ADD, ODD, TOP, LOST):
            for _ in range(10):
                # More signals from the right, that come and go by chance, make no difference.
                more = source.randint(2, 8)
                many = 2 ** row.inputs
                back = tuple([tuple([source.randrange(more) for _ in range(many)]) for _ in range(more)])
                if row.rights == 1:
                    other = row_with(row.on, back, tuple([line * more for line in row.out]))
                    self.assertTrue(are_alike(row, other))
                    self.holds(least_row(other).lefts, least_row(row).lefts)
        self.holds([least_row(doubled(ODD)).lefts, least_row(doubled(ODD)).rights], [2, 2])

    def test_alike_up_to_the_number_of_signals(self):
        one, other = ring(3, (2,)), ring(4, (2,))
        self.holds([max(one.lefts + one.rights, other.lefts + other.rights), are_alike(one, other), len(unlike_input(one, other)[0])], [5, False, 6])
        for width in range(6):
            self.assertTrue(all([one(words) == other(words) for words in all_words(1, width)]))

    def test_back_by_one_side(self):
        rows = [row for row in two_sided(955, 12)]
        self.assertTrue(any([not goes_left(undoing(row)) and not goes_right(undoing(row)) for row in rows]))

    def test_different_outputs_at_lesser_widths(self):
        # With one cell both bits make a 0; from two cells on one neighbour tells the bit.
        row = Row(((1, 1), (1, 1)), ((1, 2), (1, 2), (1, 2)), ((("0", "0"), ("0", "1"), ("0", "1")), (("0", "1"), ("0", "1"), ("0", "1"))))
        made = [[output_words(row, words) for words in all_words(1, width)] for width in range(5)]
        self.holds([len(set(outputs)) == len(outputs) for outputs in made], [True, False, True, True, True])
        self.holds([len(words[0]) for words in same_inputs(row)], [1, 1])

    def test_times_that_grow_by_less_than_the_greatest_delay(self):
        self.holds([bounded_time(ADD, (5, 2, 1, 1)), growth_rate(ADD, (5, 2, 1, 1))], [None, (2, 1)])
        self.holds([longest_time(ADD, (5, 2, 1, 1), width) for width in (10, 11)], [23, 25])

    def test_mean_times_that_do_not_grow(self):
        self.holds([bounded_time(ADD, (1,) * 4), limit_time(ADD, (1,) * 4)], [None, (2, 1)])

    def test_faults_that_are_not_found_at_each_place(self):
        fault = ("out", 1, "00", "0")
        self.holds([fault_places(ADD, fault, 5), fault_places(ADD, ("on", 0, "00", 1), 5)], [(1, 2, 3, 4), (0, 1, 2, 3)])

    def test_an_entry_on_a_ring(self):
        # The entry of the fault leads its signal to itself, and no fixed number of tests is enough.
        self.holds([LOST.on[SLIP[1]][0], paper_of_tests(LOST, SLIP)[0], lot_limit(LOST)], [SLIP[1], "rare", None])


class Runs(Checks):
    def test_all_ready_rows_against_their_cells(self):
        for row in (added(), sooner("0"), ADD, HALF):
            for words in all_words(row.inputs, 3):
                self.holds(row(words), tuple(["".join([column[line] for column in run(row, words)]) for line in range(row.outputs)]))
