"""The examples of the document, as it prints them."""

from slicerows.back import back, onto, pairs
from slicerows.base import bits
from slicerows.counts import counts
from slicerows.desk import desk
from slicerows.far import programs
from slicerows.faults import faults, lots
from slicerows.judge import alike, least, sides
from slicerows.numbers import conditions, decided, meaning
from slicerows.rows import joined, ready, rows
from slicerows.text import formats, shell
from slicerows.ticks import means as mean_times
from slicerows.ticks import settling
from tests.helpers import Checks

MODULES = (bits, rows, ready, alike, least, sides, joined, programs, conditions, decided, meaning, counts, pairs, onto, back,
           settling, mean_times, faults, lots, desk, formats, shell)

VALUES = """
>>> ADD = Row(((0, 0, 0, 1), (0, 1, 1, 1)), ((0, 0, 0, 0),), ((("0", "1", "1", "0"),), (("1", "0", "0", "1"),)))
>>> HALF = sooner("0")
>>> TOP = highest()
>>> ODD = parity()
>>> again = Row(((0, 2, 2, 1), (0, 1, 1, 1), (0, 2, 2, 1)), ((0, 0, 0, 0),), ((("0", "1", "1", "0"),), (("1", "0", "0", "1"),), (("0", "1", "1", "0"),)))
"""

WORDS = """
>>> [is_word("0a"), is_column(2, "01"), is_input(2, ("01", "1")), columns(2), columns_of(("011", "001")), words_of(2, ("00", "10", "11")), is_name("sum")]
[False, True, False, ('00', '01', '10', '11'), ('00', '10', '11'), ('011', '001'), True]
>>> [plain("011"), signed("011"), signed(""), plain_word(6, 4), signed_word(-2, 3), wrapped(-1, 3), wrapped(9, 3)]
[6, -2, 0, '0110', '011', '111', '100']
"""

ROWS = """
>>> [ADD(("0110", "1100")), ADD.left_signals(("011", "010")), ADD.led(1, ("1", "1")), ADD.inputs, ADD.outputs, ADD.lefts, ADD.rights, str(ADD)]
[('1001',), (0, 0, 1, 1), 1, 2, 1, 2, 1, 'row of 2 lines to 1, 2 signals from the left, 1 from the right']
>>> [(~ADD)(("0110", "0011")), reached(ADD), way_to(ADD, 1), way_to(ADD, 0), ADD.with_on(0, "11", 0)(("11", "11")), HALF(("011",)), HALF.right_signals(("011",)), (~~ADD) == ADD]
[('1001',), (0, 1), ('1', '1'), ('', ''), ('00',), ('110',), (0, 1, 1, 0), True]
"""

READY = """
>>> [copied(2)(("01", "11")), picked(2, (1, 0, 1))(("01", "11")), gate(2, "0001")(("0011", "0101")), added() == ADD, subtracted()(("0100", "1100")), negated()(("0110",)), times(3)(("1010",))]
[('01', '11'), ('11', '01', '11'), ('0001',), True, ('1111',), ('0101',), ('1111',)]
>>> [greater()(("0110", "1010")), later("1")(("0110",)), HALF(("0110",)), lowest()(("0110",)), TOP(("0110",)), filled()(("0100",)), ODD(("1101",)), last()(("110",)), last().rights, times(8).lefts]
[('0111',), ('1011',), ('1100',), ('0100',), ('0010',), ('1100',), ('1111',), ('000',), 3, 8]
"""

ALIKE = """
>>> [are_alike(ADD, again), left_pairs(ADD, again), right_pairs(ADD, again), alike_paper(ADD, again)[0], is_alike_paper(ADD, ADD, ("alike", ((0, 0), (1, 1)), ((0, 0),)))]
[True, ((0, 0), (0, 2), (1, 1)), ((0, 0),), 'alike', True]
>>> [len(unlike_input(ADD, ADD.with_on(1, "00", 1))[0]), are_alike(HALF, sooner("1")), is_alike_paper(HALF, sooner("1"), ("unlike", ("0",))), are_alike(TOP, ~lowest()), is_alike_paper(ADD, again, ("alike", ((0, 0),), ((0, 0),)))]
[3, False, True, True, False]
"""

LEAST = """
>>> [left_classes(again), least_row(again) == ADD, is_least(ADD), is_least(again), len(parting_end(ADD, 0, 1)[0]), parting_end(again, 0, 2), len(parting_beginning(HALF, 0, 1)[0]), right_classes(ODD)]
[(0, 1, 0), True, True, False, 1, None, 1, (0, 1)]
>>> [is_fewest_paper(ADD, ("fewest", (("", ""), ("11", "10")), (("0", "1"),))), is_fewest_paper(ADD, ("fewest", (("", ""), ("0", "1")), (("0", "1"),))), least_row(ADD.with_on(0, "11", 0)).lefts]
[True, False, 1]
"""

SIDES = """
>>> [goes_left(ADD), goes_right(HALF), goes_left(ODD), from_left(again) == ADD, needs_paper(ADD), is_needs_paper(HALF, ("needs", ("",), "0", ("1",), ("",)))]
[True, True, False, True, None, True]
>>> [span(HALF), span(ADD), span(later("0")), span(copied(1)), span(ODD), span(last())]
[(0, 1), (None, 0), (1, 0), (0, 0), (None, None), (0, None)]
"""

JOINED = """
>>> [behind(later("0"), HALF)(("0111",)), are_alike(behind(HALF, later("0")), copied(1)), behind(negated(), negated()) == copied(1), behind(ADD, HALF)(("1100", "1000")), repeated(later("0"), 3)(("11111",))]
[('0110',), False, True, ('0100',), ('00011',)]
>>> negated_second = behind(picked(2, (1,)), negated())
>>> [together(ADD, subtracted())(("010", "100")), beside(negated(), last())(("010", "110")), behind(together(picked(2, (0,)), negated_second), ADD) == subtracted(), behind(TOP, lowest()) == TOP, repeated(times(3), 2).lefts]
[('110', '100'), ('011', '000'), True, True, 9]
>>> behind(ADD, ADD)
raises InvalidOperation
"""

PROGRAMS = """
>>> far = Program(2, (("words", ("1", "1")), ("power", 0, 10 ** 30), ("words", ("0", "0")), ("join", 1, 2)))
>>> [far.width == 10 ** 30 + 1, far[10 ** 30], far[0], far_left(ADD, 0, far), far_column(ADD, far, 0), far_column(ADD, far, 10 ** 30), far_ones(ADD, far) == (10 ** 30,), far_rest(ADD, far, 0, 7), str(far)]
[True, '00', '11', 0, '0', '1', True, 2, 'program of 4 steps, 2 lines']
>>> line = Program.of(1, ("01",)).power(10 ** 20)
>>> [far_ones(ODD, line), far_right(HALF, 0, line), far_column(TOP, line, 2 * 10 ** 20 - 1), far_rest(copied(1), line, 0, 3), (line + line).width == 4 * 10 ** 20]
[(0,), 0, '1', 2, True]
"""

CONDITIONS = """
>>> SUM, LOW, EVEN = Condition("equal", (1, 1, -1), 0), Condition("most", (1,), 3), Condition("rest", (1,), 0, modulus=2)
>>> [SUM(("011", "100", "111")), LOW(("001",)), (LOW & EVEN)(("01",)), (~LOW | EVEN)(("1",)), Condition("wrapped", (1, 1, -1), 0)(("11", "10", "00")), Condition("most", (1,), -2, kind="signed")(("01",)), str(LOW & ~EVEN)]
[True, False, True, False, True, True, 'condition on 1 words, 2 parts']
>>> [SUM.first, SUM.behind(0, "110"), SUM.behind(1, "111"), SUM.behind(0, "100"), SUM.holds_at(-1, "001"), SUM.holds_at(1, "101"), LOW.behind(3, "0"), EVEN.first, EVEN.behind((0, 1), "1"), (LOW & EVEN).first]
[0, -1, 0, None, True, False, 1, (0, 1), (1, 0), (3, (0, 1))]
>>> [SUM.keeps((10 ** 40, 1, 10 ** 40 + 1)), LOW.keeps((4,)), (LOW & EVEN).parts == (LOW, EVEN), (~LOW).rule, len(LOW & EVEN | LOW)]
[True, False, True, 'not', 3]
"""

DECIDED = """
>>> same = row_of(Condition("equal", (1, -1), 0))
>>> [same(("011", "010")), same.lefts, are_alike(row_of(~Condition("most", (1, -1), 0)), greater()), row_of(EVEN)(("101",)), row_of(LOW)(("1111",)), row_of(LOW).lefts]
[('110',), 2, True, ('000',), ('1100',), 4]
>>> [is_implied(Condition("equal", (1,), 2), LOW & EVEN), is_implied(LOW, EVEN), is_implied_paper(LOW, EVEN, ("fails", ("1",))), can_hold(Condition("equal", (2,), 3)), first_keeping(Condition("equal", (1,), 6)), are_same(~~LOW, LOW)]
[True, False, True, False, ('011',), True]
>>> [implied_paper(EVEN, EVEN)[0], is_implied_paper(LOW, LOW, ("implied", ((-1, -1), (0, 0), (1, 1), (3, 3)))), is_first_keeping(~LOW, ("001",)), is_first_keeping(~LOW, ("1111",))]
['implied', True, True, False]
"""

MEANING = """
>>> both = Condition("most", (1, -2), 1) & Condition("most", (-1, 2), 0)
>>> [means(ADD, Condition("wrapped", (1, 1, -1), 0)), means(ADD, SUM), len(first_exception(ADD, SUM)[0]), means(HALF, both), means(times(3), Condition("wrapped", (3, -1), 0)), means(TOP, Condition("most", (-1, 1), 0))]
[True, False, 1, True, True, True]
>>> [meaning_paper(HALF, both)[0], is_meaning_paper(ADD, SUM, ("fails", ("1", "1"))), is_meaning_paper(ADD, SUM, ("fails", ("1", "0"))), means(copied(1), Condition("equal", (1, -1), 0, kind="signed")), means(negated(), Condition("equal", (1, 1), 0, kind="signed"))]
['means', True, False, True, False]
"""

COUNTS = """
>>> [inputs_with(LOW, 5), inputs_with(LOW, 1), inputs_with(SUM, 3), inputs_making(ADD, SUM, 3), inputs_for(ADD, ("011",)), outputs_of(TOP, 4), outputs_of(ADD, 3), ones_of(ODD, 2), ones_of(ADD, 1)]
[4, 2, 36, 36, 8, 5, 8, (4,), (2,)]
>>> [inputs_for(TOP, ("110",)), input_for(TOP, ("110",)), inputs_for(TOP, ("010",)), ADD(input_for(ADD, ("0101",))), outputs_of(HALF, 0), inputs_with(~EVEN, 300) == 2 ** 299]
[0, None, 2, ('0101',), 1, True]
"""

PAIRS = """
>>> GRAY = behind(together(copied(1), HALF), gate(2, "0110"))
>>> [GRAY(("0110",)), is_one_to_one(GRAY), is_one_to_one(negated()), is_one_to_one(ADD), is_one_to_one(ODD), [len(words[0]) for words in same_inputs(ODD)], same_inputs(times(3))]
[('1010',), True, True, False, False, [2, 2], None]
>>> [is_one_paper(copied(1), ("one", ((0, 0, 0, 0, 0),))), is_one_paper(ODD, ("same", ("01",), ("10",))), is_one_paper(ODD, ("same", ("01",), ("01",))), one_paper(later("0"))[0], one_paper(TOP)[0]]
[True, True, False, 'same', 'same']
"""

ONTO = """
>>> [is_onto(ADD), is_onto(GRAY), is_onto(later("0")), missing_output(later("0")), is_onto(picked(1, (0, 0))), len(missing_output(TOP)[0]), input_for(GRAY, ("1010",)), input_for(later("0"), ("10",))]
[True, True, False, ('1',), False, 2, ('0110',), None]
>>> [left_set(HALF, ("",)), left_set(HALF, ("1",)), left_set(later("0"), ("1",)), is_onto_paper(copied(1), ("onto", (((0, 0),),))), is_onto_paper(TOP, ("missing", ("11",))), is_onto_paper(ADD, ("missing", ("1",)))]
[((0, 0), (0, 1)), ((0, 1),), (), True, True, False]
"""

BACK = """
>>> [undoing(GRAY)(("1010",)), undoing(negated()) == negated(), undoing(times(3))(("1111",)), undoing(times(3)).lefts, are_alike(undoing(undoing(GRAY)), GRAY), goes_right(undoing(GRAY)), is_undone(GRAY, undoing(GRAY))]
[('0110',), True, ('1010',), 3, True, True, True]
>>> [cycle_length(negated(), 8), cycle_length(copied(2), 1), cycle_length(picked(2, (1, 0)), 8), cycle_length(GRAY, 3), is_undone(together(ADD, picked(2, (1,))), together(subtracted(), picked(2, (1,)))), is_undone(later("0"), HALF)]
[2, 1, 2, None, True, False]
>>> undoing(ADD)
raises InvalidOperation
"""

SETTLING = """
>>> BACKWARD = later("0")
>>> [settled_at(BACKWARD, (1, 3), ("0110",)), longest_time(BACKWARD, (1, 3), 5), bounded_time(BACKWARD, (1, 3)), growth_rate(BACKWARD, (1, 3)), settled_at(ADD, (1, 2, 2, 1), ("0011", "0111")), longest_time(ADD, (1, 2, 2, 1), 7)]
[(0, 1, 3, 3, 1), 3, 3, (0, 1), (0, 1, 3, 1, 1), 14]
>>> [growth_rate(ADD, (1, 2, 2, 1)), longest_time(ADD, (5, 2, 1, 1), 4), bounded_time(ADD, (1, 1, 1, 1)), is_rate_paper(ADD, (1, 2, 2, 1), ("grows", (0, 1), ("0", "1"), {(0, 1): 0})), is_rate_paper(BACKWARD, (1, 3), ("bounded", {(0, 1): 7})), rate_paper(ADD, (1, 1, 1, 1))[0]]
[(2, 1), 11, None, True, True, 'grows']
"""

MEANS = """
>>> [open_inputs(ADD, 3), mean_time(ADD, (1, 1, 1, 1), 3), limit_time(ADD, (1, 1, 1, 1)), limit_time(ADD, (1, 2, 2, 1)), mean_time(BACKWARD, (1, 3), 0), mean_time(BACKWARD, (1, 3), 9), limit_time(ODD, (1, 1)), mean_time(ODD, (1, 2), 4)]
[8, (7, 4), (2, 1), (3, 1), (0, 1), (2, 1), None, (6, 1)]
>>> [len(reset_input(ADD)[0]), reset_input(ODD), reset_paper(ODD), is_reset_paper(ADD, ("resets", ("01", "00"))), is_reset_paper(ADD, ("resets", ("10", "01"))), reset_input(copied(1))]
[1, None, ('never', ((0, 1),)), True, False, ('',)]
"""

FAULTS = """
>>> carry = ("on", 0, "00", 1)
>>> [len(all_faults(ADD)), is_fault(ADD, carry), is_fault(ADD, ("on", 0, "11", 1)), broken_output(ADD, carry, ("000", "000"), 0), finds(ADD, carry, ("000", "000"), 2), fault_places(ADD, carry, 3), fault_places(ADD, ("out", 1, "00", "0"), 3)]
[16, True, False, ('010',), False, (0, 1), (1, 2)]
>>> [len(finding_input(ADD, carry)[0][0]), faults_found(ADD, ("1", "1")), finding_input(again, ("on", 0, "00", 2)), fault_paper(ADD, carry)[0], is_fault_paper(ADD, carry, ("found", ("00", "01"), 0))]
[2, ((('out', 0, '11', '1'), 0),), None, 'found', True]
>>> [is_fault_paper(again, ("on", 0, "00", 2), ("never", (0, 1, 2), ((0, 0), (0, 2), (1, 1), (2, 2)))), is_fault_paper(ADD, carry, ("never", (0, 1), ((0, 1),)))]
[True, False]
>>> all_faults(HALF)
raises InvalidOperation
"""

LOTS = """
>>> LOST = Row(((0, 2), (0, 2), (2, 2)), ((0, 0),), ((("0", "0"),), (("0", "1"),), (("0", "0"),)))
>>> slip = ("on", 0, "0", 1)
>>> [fault_places(LOST, slip, 5), faults_found(LOST, ("0010",))[-2:], are_tests_bounded(ADD), are_tests_bounded(LOST), lot_limit(LOST), test_paper(LOST, slip)[0], test_paper(ADD, carry)[0], test_paper(again, ("on", 0, "00", 2))]
[(0, 1, 2, 3), ((('out', 0, '1', '1'), 2), (('out', 2, '0', '1'), 3)), True, False, None, 'rare', 'often', ('never',)]
>>> [is_test_paper(ADD, ("on", 0, "11", 0), ("often", ("", ""), ("10", "10"))), is_test_paper(LOST, slip, ("often", ("",), ("0",))), is_test_paper(LOST, slip, ("rare", {(0, ()): 1, (0, (1,)): 0, (2, ()): 0}))]
[True, False, True]
>>> four = (("0", "0"), ("0", "1"), ("1", "0"), ("1", "1"))
>>> [is_complete(ADD, 1, four), missed(ADD, 1, four[:3]), is_complete(ADD, 6, complete_lot(ADD, 6)), len(complete_lot(ADD, 9)) <= lot_limit(ADD), is_complete(LOST, 0, ())]
[True, (('out', 0, '11', '1'), 0), True, True, True]
"""

DESK = """
>>> shop = Workshop()
>>> [shop.keep("sum", ADD), shop.keep("twin", again), shop.promise("same", ("alike", "sum", "twin")), shop.promise("oneway", ("left", "twin")), shop.names, shop.labels, str(shop)]
[None, None, None, None, ('sum', 'twin'), ('oneway', 'same'), 'workshop of 2 rows, 2 promises']
>>> [shop.set_on("twin", 2, "00", 2), shop.output("twin", ("0110", "1100")), shop.would_break("sum", subtracted()), shop.shrink("twin"), shop["twin"] == ADD, shop.undo(many=2), shop["twin"].lefts, shop.redo(), shop.during(lambda same: same.undo(many=3)), len(shop)]
[None, ('1001',), ('same',), None, True, 4, 3, 5, 2, 2]
>>> shop.set_on("sum", 0, "11", 0)
raises Broken('same')
>>> shop.drop("sum")
raises InvalidOperation
"""

FORMATS = r"""
>>> [write_row(ADD).split("\n"), write_input(("011", "010")), write_input(("",)), write_condition(LOW & ~EVEN).split("\n")]
[['lines 2 1', 'signals 2 1', 'on 0 0 0 1', 'on 0 1 1 1', 'back 0 0 0 0', 'out 0 1 1 0', 'out 1 0 0 1'], 'lines 2\nwords 011 010', 'lines 1\nwords', ['most plain 3 1', 'rest plain 0 2 1', 'not', 'and']]
>>> [write_program(Program(2, (("words", ("1", "1")), ("power", 0, 5)))).split("\n"), read_row(write_row(TOP)) == TOP, write_value(("rare", {(0, (1,)): -2, (): 7}, None, "01")), read_value("{ =ab ( ) }"), read_condition("equal plain 0 1 1 -1") == SUM]
[['lines 2', 'words 1 1', 'power 0 5'], True, '( =rare { ( ) 7 ( 0 ( 1 ) ) -2 } none =01 )', {'ab': ()}, True]
>>> read_row("lines 1 1\nsignals 1 1\non 0 0\nback 0 0\nout 0 1\nout")
raises ParseError(6)
>>> read_condition("most plain 3 1\nand 2")
raises ParseError(1)
"""

SHELL = r"""
>>> shell = Shell()
>>> [shell("ready sum added"), shell("ready three times 3"), shell("row copy lines 1 1; signals 1 1; on 0 0; back 0 0; out 0 1"), shell("output sum =0110 =1100"), shell("fewest three"), shell("promise rule means sum wrapped plain 0 1 1 -1"), shell("on sum 0 =11 0"), shell("names")]
['done', 'done', 'done', '=1001', '3 1', 'done', 'broken rule', 'copy sum three']
>>> [shell("undoing third three"), shell("behind again three third"), shell("alike again copy"), shell("undoing other sum"), shell("rate sum 1 2 2 1"), shell("slowest sum 7 1 2 2 1"), shell("implied equal plain 2 1 -> most plain 3 1; rest plain 0 2 1; and"), shell("output copy =")]
['done', 'done', 'yes', 'operation', '2 1', '14', 'yes', '=']
>>> [shell("ready x gate 1 =01"), shell("show x").split("\n")[4], shell("bounded sum"), shell("alike sum copy"), shell("left far"), shell("output sum =01"), shell("undo 9"), shell("promise rule"), shell("release rule"), shell("labels")]
['done', 'out 0 1', 'yes', 'operation', 'unknown far', 'input', 'undo 9', 'what', 'done', 'none']
"""


class Examples(Checks):
    def check_stage(self, text):
        names = {}
        for module in MODULES:
            names.update(vars(module))
        self.shows(VALUES + text, names)

    def test_words(self):
        self.check_stage(WORDS)

    def test_rows(self):
        self.check_stage(ROWS)

    def test_ready(self):
        self.check_stage(READY)

    def test_alike(self):
        self.check_stage(ALIKE)

    def test_least(self):
        self.check_stage(LEAST)

    def test_sides(self):
        self.check_stage(SIDES)

    def test_joined(self):
        self.check_stage(JOINED)

    def test_programs(self):
        self.check_stage(PROGRAMS)

    def test_conditions(self):
        self.check_stage(CONDITIONS)

    def test_decided(self):
        self.check_stage(CONDITIONS + DECIDED)

    def test_meaning(self):
        self.check_stage(CONDITIONS + MEANING)

    def test_counts(self):
        self.check_stage(CONDITIONS + COUNTS)

    def test_pairs(self):
        self.check_stage(PAIRS)

    def test_onto(self):
        self.check_stage(PAIRS + ONTO)

    def test_back(self):
        self.check_stage(PAIRS + BACK)

    def test_settling(self):
        self.check_stage(SETTLING)

    def test_means(self):
        self.check_stage(SETTLING + MEANS)

    def test_faults(self):
        self.check_stage(FAULTS)

    def test_lots(self):
        self.check_stage(FAULTS + LOTS)

    def test_desk(self):
        self.check_stage(DESK)

    def test_formats(self):
        self.check_stage(CONDITIONS + FORMATS)

    def test_shell(self):
        self.check_stage(SHELL)
