"""The examples of the document, as it prints them."""

from slicerows.base import bits
from slicerows.judge import alike, least, sides
from slicerows.rows import ready, rows
from tests.helpers import Checks

MODULES = (bits, rows, ready, alike, least, sides)

VALUES = """
>>> ADD = Row(((0, 0, 0, 1), (0, 1, 1, 1)), ((0, 0, 0, 0),), ((("0", "1", "1", "0"),), (("1", "0", "0", "1"),)))
>>> HALF = sooner("0")
>>> TOP = highest()
>>> ODD = parity()
>>> again = Row(((0, 2, 2, 1), (0, 1, 1, 1), (0, 2, 2, 1)), ((0, 0, 0, 0),), ((("0", "1", "1", "0"),), (("1", "0", "0", "1"),), (("0", "1", "1", "0"),)))
"""

WORDS = """
>>> [is_word("0a"), is_column(2, "01"), is_input(2, ("01", "1")), columns(2), columns_of(("011", "001")), words_of(2, ("00", "10", "11")), is_name("sum")]
[False, True, False, ('00', '01', '10', '11'), ('00', '10', '11'), ('011', '001'), True]
>>> [plain("011"), signed("011"), signed(""), plain_word(6, 4), signed_word(-2, 3), wrapped(-1, 3), wrapped(9, 3)]
[6, -2, 0, '0110', '011', '111', '100']
"""

ROWS = """
>>> [ADD(("0110", "1100")), ADD.left_signals(("011", "010")), ADD.led(1, ("1", "1")), ADD.inputs, ADD.outputs, ADD.lefts, ADD.rights, str(ADD)]
[('1001',), (0, 0, 1, 1), 1, 2, 1, 2, 1, 'row of 2 lines to 1, 2 signals from the left, 1 from the right']
>>> [(~ADD)(("0110", "0011")), reached(ADD), way_to(ADD, 1), way_to(ADD, 0), ADD.with_on(0, "11", 0)(("11", "11")), HALF(("011",)), HALF.right_signals(("011",)), (~~ADD) == ADD]
[('1001',), (0, 1), ('1', '1'), ('', ''), ('00',), ('110',), (0, 1, 1, 0), True]
"""

READY = """
>>> [copied(2)(("01", "11")), picked(2, (1, 0, 1))(("01", "11")), gate(2, "0001")(("0011", "0101")), added() == ADD, subtracted()(("0100", "1100")), negated()(("0110",)), times(3)(("1010",))]
[('01', '11'), ('11', '01', '11'), ('0001',), True, ('1111',), ('0101',), ('1111',)]
>>> [greater()(("0110", "1010")), later("1")(("0110",)), HALF(("0110",)), lowest()(("0110",)), TOP(("0110",)), filled()(("0100",)), ODD(("1101",)), last()(("110",)), last().rights, times(8).lefts]
[('0111',), ('1011',), ('1100',), ('0100',), ('0010',), ('1100',), ('1111',), ('000',), 3, 8]
"""

ALIKE = """
>>> [are_alike(ADD, again), left_pairs(ADD, again), right_pairs(ADD, again), alike_paper(ADD, again)[0], is_alike_paper(ADD, ADD, ("alike", ((0, 0), (1, 1)), ((0, 0),)))]
[True, ((0, 0), (0, 2), (1, 1)), ((0, 0),), 'alike', True]
>>> [len(unlike_input(ADD, ADD.with_on(1, "00", 1))[0]), are_alike(HALF, sooner("1")), is_alike_paper(HALF, sooner("1"), ("unlike", ("0",))), are_alike(TOP, ~lowest()), is_alike_paper(ADD, again, ("alike", ((0, 0),), ((0, 0),)))]
[3, False, True, True, False]
"""

LEAST = """
>>> [left_classes(again), least_row(again) == ADD, is_least(ADD), is_least(again), len(parting_end(ADD, 0, 1)[0]), parting_end(again, 0, 2), len(parting_beginning(HALF, 0, 1)[0]), right_classes(ODD)]
[(0, 1, 0), True, True, False, 1, None, 1, (0, 1)]
>>> [is_fewest_paper(ADD, ("fewest", (("", ""), ("11", "10")), (("0", "1"),))), is_fewest_paper(ADD, ("fewest", (("", ""), ("0", "1")), (("0", "1"),))), least_row(ADD.with_on(0, "11", 0)).lefts]
[True, False, 1]
"""

SIDES = """
>>> [goes_left(ADD), goes_right(HALF), goes_left(ODD), from_left(again) == ADD, needs_paper(ADD), is_needs_paper(HALF, ("needs", ("",), "0", ("1",), ("",)))]
[True, True, False, True, None, True]
>>> [span(HALF), span(ADD), span(later("0")), span(copied(1)), span(ODD), span(last())]
[(0, 1), (None, 0), (1, 0), (0, 0), (None, None), (0, None)]
"""


class Examples(Checks):
    def check_stage(self, text):
        names = {}
        for module in MODULES:
            names.update(vars(module))
        self.shows(VALUES + text, names)

    def test_words(self):
        self.check_stage(WORDS)

    def test_rows(self):
        self.check_stage(ROWS)

    def test_ready(self):
        self.check_stage(READY)

    def test_alike(self):
        self.check_stage(ALIKE)

    def test_least(self):
        self.check_stage(LEAST)

    def test_sides(self):
        self.check_stage(SIDES)
