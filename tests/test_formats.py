"""Texts: 0.1, 0.2, 0.4, 0.6, 1.1, 21.1 to 21.3 and stage 21."""

import random
import re

from slicerows.base.bits import is_input
from slicerows.desk.desk import Workshop
from slicerows.errors import InvalidCondition, InvalidInput, InvalidOperation, InvalidProgram, InvalidRow, ParseError
from slicerows.far.programs import Program
from slicerows.faults.faults import all_faults, fault_paper
from slicerows.faults.lots import test_paper as paper_of_tests
from slicerows.judge.alike import alike_paper
from slicerows.numbers.conditions import Condition
from slicerows.numbers.decided import implied_paper
from slicerows.rows.joined import repeated
from slicerows.rows.ready import copied, gate, last, later, negated, parity, picked, times
from slicerows.rows.rows import Row
from slicerows.text.formats import read_condition, read_input, read_program, read_row, read_value, write_condition, write_input
from slicerows.text.formats import write_program, write_row, write_value
from slicerows.text.shell import Shell
from slicerows.ticks.settling import rate_paper
from tests.helpers import ADD, AGAIN, FAR, HALF, KINDS, LOW, ODD, TOP, Checks, deep, not_conditions, not_inputs
from tests.helpers import not_programs, not_rows, poor_tables, random_tables, some_rows, wide_row
from tests.test_conditions import some_conditions
from tests.test_lots import LOST, SLIP

SUM, EVEN = Condition("equal", (1, 1, -1), 0), Condition("rest", (1,), 0, modulus=2)
NUMBER = "(?:0|-?[1-9][0-9]{0,199})"
WORD = "[^ \n]+"
FORMS = {
    read_input: (f"lines {NUMBER}", f"words(?: {WORD})*"),
    read_row: (f"lines {NUMBER} {NUMBER}", f"signals {NUMBER} {NUMBER}", f"(?:on|back)(?: {NUMBER})*|out(?: {WORD})*"),
    read_program: (f"lines {NUMBER}", f"words(?: {WORD})*|(?:join|power) {NUMBER} {NUMBER}"),
    read_condition: (f"(?:equal|most|rest|wrapped) {WORD}(?: {NUMBER})*|not|and|or",),
}
WRITERS = {read_input: write_input, read_row: write_row, read_program: write_program, read_condition: write_condition}


def first_wrong(read, text):
    """The index of the first line that has not the form of its place, or the number of lines, straight from stage 21."""
    forms = FORMS[read]
    lines = text.split("\n")
    for index, line in enumerate(lines):
        if read is read_input and index >= 2 or not re.fullmatch(forms[min(index, len(forms) - 1)], line):
            return index
    return len(lines)


def not_texts():
    return [value for value in KINDS if not isinstance(value, str)] + [b"lines 1", ["lines 1"], Workshop(), Shell()]


def some_programs(seed, many):
    source = random.Random(seed)
    found = []
    for _ in range(many):
        lines = source.randint(1, 3)
        steps = []
        for at in range(source.randint(1, 6)):
            kind = source.choice(("words", "join", "power")) if at else "words"
            width = source.randint(0, 4)
            steps.append({"words": ("words", tuple(["".join([source.choice("01") for _ in range(width)]) for _ in range(lines)])),
                          "join": ("join", source.randrange(at or 1), source.randrange(at or 1)),
                          "power": ("power", source.randrange(at or 1), source.choice((0, 1, 7, 10 ** 100)))}[kind])
        if sum([step[0] == "power" for step in steps]) < 4:
            found.append(Program(lines, tuple(steps)))
    return found


def some_values(seed, many):
    source = random.Random(seed)

    def made(room):
        kind = source.randrange(7 if room else 4)
        if kind < 4:
            return (None, source.randint(-20, 20), source.choice((10 ** 200 - 1, 1 - 10 ** 200)), source.choice(("", "ab", "01z")))[kind]
        if kind < 6:
            return tuple([made(room - 1) for _ in range(source.randrange(4))])
        return {key(room - 1): made(room - 1) for _ in range(source.randrange(4))}

    def key(room):
        if room and source.randrange(3) == 0:
            return tuple([key(room - 1) for _ in range(source.randrange(3))])
        return source.choice((None, source.randint(-99, 99), source.choice("abc"), ""))

    return [made(source.randint(1, 8)) for _ in range(many)]


INPUTS = [("",), ("", ""), ("", "", ""), ("0",), ("01", "10"), ("1", "0", "1"), ("01" * 2000,), ("0" * 4000,) * 3]
ROWS = [ADD, AGAIN, HALF, TOP, ODD, last(), negated(), copied(3), picked(1, (0, 0, 0)), gate(3, "01101001"), times(8), ~times(8), parity()]
CONDITIONS = [SUM, LOW, EVEN, LOW & ~EVEN, ~(LOW | EVEN), (LOW & EVEN) & (LOW | EVEN), LOW & (EVEN & (LOW | EVEN)), ~~~SUM,
              Condition("wrapped", (99, -99, 0, 1, -1, 5), 10 ** 200 - 1, kind="signed"), Condition("rest", (0,), -7, modulus=60, kind="signed"),
              Condition("equal", (1,), 1 - 10 ** 200)]


class Texts(Checks):
    def both_ways(self, read, write, value):
        text = write(value)
        found = read(text)
        self.assertTrue(found == value)
        self.holds(write(found), text)
        self.holds(first_wrong(read, text), len(text.split("\n")))

    def parses(self, read, text, index):
        """Whether a text is refused because of a line with an index."""
        with self.assertRaises(ParseError, msg=repr(text)) as caught:
            read(text)
        self.holds((caught.exception.index, text), (index, text))

    def changed(self, source, text):
        """A text with some change."""
        lines = text.split("\n")
        at = source.randrange(len(lines))
        parts = lines[at].split(" ")
        part = source.randrange(len(parts))
        kind = source.randrange(9)
        if kind == 0:
            del lines[at]
        elif kind == 1:
            lines.insert(at, source.choice(lines + ["", "not", "x", "words", "on", "out 0"]))
        elif kind == 2:
            parts.insert(part, source.choice(("", "0", "1", "-1", "01", "x", "00")))
        elif kind == 3:
            del parts[part]
        elif kind == 4:
            parts[part] = source.choice(("-0", "00", "-1", "8", "9", "61", "007", "+1", "1.0", "x", "", "equal", "signed", "and", "1" * 201))
        elif kind == 5:
            lines[at], lines[-1] = lines[-1], lines[at]
            parts = lines[at].split(" ")
        elif kind == 6:
            parts[part] += source.choice(("0", "1", " ", "x", "\n"))
        elif kind == 7:
            lines.append(source.choice(("", "words", "not", "words 0", "out 0 1", "back 0 0")))
        else:
            parts[part] = parts[part][1:]
        if kind in (2, 3, 4, 6, 8):
            lines[at] = " ".join(parts)
        return "\n".join(lines)

    def test_changed_texts(self):
        source = random.Random(801)
        told = {read: [write(value) for value in values] for read, write, values in (
            (read_input, write_input, INPUTS[:6]), (read_row, write_row, ROWS + some_rows(802, 10, 3)),
            (read_program, write_program, some_programs(803, 25)), (read_condition, write_condition, CONDITIONS))}
        good = 0
        for read, texts in told.items():
            for _ in range(1500):
                text = source.choice(texts)
                for _ in range(source.choice((1, 1, 1, 2))):
                    text = self.changed(source, text)
                try:
                    found = read(text)
                except ParseError as error:
                    self.holds((text, error.index), (text, first_wrong(read, text)))
                else:
                    good += 1
                    self.holds(WRITERS[read](found), text)
        self.assertGreater(good, 100)

    def test_no_strings(self):
        for read in (read_input, read_row, read_program, read_condition, read_value):
            self.checks_in_order(read, (write_input(("0",)), InvalidOperation, not_texts()))

    def test_empty_texts_and_line_ends(self):
        for read, text in ((read_input, "lines 1\nwords 0"), (read_row, write_row(ADD)), (read_program, "lines 1\nwords 0"),
                           (read_condition, "most plain 3 1"), (read_value, "( )")):
            many = len(text.split("\n"))
            self.parses(read, "", 0)
            self.parses(read, "\n", 0)
            self.parses(read, "\n" + text, 0)
            self.parses(read, text + "\n", many)
            self.parses(read, text + " ", many - 1)
            self.parses(read, " " + text, 0)
            self.parses(read, text + "\n\n", many)

    def test_parse_errors_keep_an_index(self):
        self.parses(read_row, "lines 1 1\nsignals 1 1\non 0 0\nback 0 0\nout 0 1\nout", 6)
        self.parses(read_condition, "most plain 3 1\nand 2", 1)


class Inputs(Texts):
    def test_texts(self):
        for words in INPUTS:
            self.both_ways(read_input, write_input, words)
            self.holds(read_input(write_input(words)), words)
        self.holds([write_input(("011", "010")), write_input(("",)), write_input(("", "", ""))],
                   ["lines 2\nwords 011 010", "lines 1\nwords", "lines 3\nwords"])

    def test_other_texts(self):
        for text, index in (("lines 0\nwords", 2), ("lines 4\nwords 0 0 0 0", 2), ("lines 2\nwords 0", 2), ("lines 1\nwords 0 1", 2),
                            ("lines 2\nwords 0 01", 2), ("lines 1\nwords 2", 2), ("lines 1\nwords a", 2), ("lines 1\nwords " + "0" * 4001, 2),
                            ("lines -1\nwords", 2), ("lines 1", 1), ("lines 1\nwords\nwords", 2), ("lines 01\nwords", 0), ("lines -0\nwords", 0),
                            ("lines\nwords", 0), ("lines 1 1\nwords", 0), ("line 1\nwords", 0), ("lines 1\nword 0", 1), ("lines 1\nwords  0", 1),
                            ("lines 1\nwords ", 1), ("lines 1\n\nwords", 1), ("lines " + "1" * 200 + "\nwords", 2), ("lines " + "1" * 201 + "\nwords", 0),
                            ("words\nlines 1", 0), ("lines 1\nwords 0\n", 2), ("Lines 1\nwords", 0), ("lines x\nwords", 0), ("lines =1\nwords", 0)):
            self.parses(read_input, text, index)

    def test_errors(self):
        wrong = [value for value in not_inputs(2) if not any([is_input(lines, value) for lines in (1, 3)])]
        self.checks_in_order(write_input, (("0",), InvalidInput, wrong))
        for words in (("0",) * 4, (), ("0", "01")):
            self.refuses(InvalidInput, write_input, words)


class Rows(Texts):
    def test_texts(self):
        source = random.Random(804)
        for row in ROWS + some_rows(805, 30) + some_rows(806, 6, 8, 3, 3):
            self.both_ways(read_row, write_row, row)
        for lefts, rights, inputs, outputs in ((1, 8, 1, 1), (8, 1, 2, 3), (8, 8, 3, 2), (1, 1, 3, 1), (5, 6, 1, 3)):
            for make in (random_tables, poor_tables):
                self.both_ways(read_row, write_row, Row(*make(source, lefts, rights, inputs, outputs)))
        self.holds(write_row(picked(1, (0, 0))).split("\n"), ["lines 1 2", "signals 1 1", "on 0 0", "back 0 0", "out 00 11"])

    def test_the_order_of_the_lines(self):
        row = Row(((0, 1), (1, 0)), ((0, 0), (1, 1)), (((("0", "1"), ("1", "1")), (("0", "0"), ("1", "0")))))
        text = "lines 1 1\nsignals 2 2\non 0 1\non 1 0\nback 0 0\nback 1 1\nout 0 1\nout 1 1\nout 0 0\nout 1 0"
        self.holds(write_row(row), text)
        self.assertTrue(read_row(text) == row)
        lines = text.split("\n")
        for at in range(2, 9):
            other = lines[:at] + [lines[at + 1], lines[at]] + lines[at + 2:]
            swapped = lines[at].split(" ")[0] == lines[at + 1].split(" ")[0]
            if swapped:
                self.assertTrue(read_row("\n".join(other)) != row)
            else:
                self.parses(read_row, "\n".join(other), 10)

    def test_other_texts(self):
        good = "lines 1 1\nsignals 1 1\non 0 0\nback 0 0\nout 0 1"
        self.holds(write_row(read_row(good)), good)
        for text, index in ((good.replace("lines 1 1", "lines 2 1"), 5), (good.replace("lines 1 1", "lines 1 2"), 5),
                            (good.replace("signals 1 1", "signals 2 1"), 5), (good.replace("signals 1 1", "signals 1 0"), 5), (good + "\nout 0 1", 6),
                            (good + "\non 0 0", 6), (good + "\nback 0 0", 6), (good.replace("on 0 0", "on 0 1"), 5), (good.replace("on 0 0", "on 0"), 5),
                            (good.replace("on 0 0", "on 0 -1"), 5), (good.replace("on 0 0", "on 0 01"), 2), (good.replace("on 0 0", "on 0 x"), 2),
                            (good.replace("on 0 0", "on"), 5), (good.replace("out 0 1", "out 0 x"), 5), (good.replace("out 0 1", "out 0 01"), 5),
                            (good.replace("out 0 1", "out"), 5), (good.replace("out 0 1", "out  0 1"), 4), (good.replace("back 0 0", "Back 0 0"), 3),
                            (good.replace("signals 1 1", "signals 1"), 1), (good.replace("signals 1 1", "signals 1 1 1"), 1), ("lines 1 1", 1),
                            ("lines 1 1\nsignals 1 1", 2), ("lines 1 1\nsignals 0 0", 2), ("lines 1", 0), (good.replace("lines 1 1", "lines 1 -0"), 0),
                            ("signals 1 1\nlines 1 1", 0), (good.replace("\non 0 0", ""), 4), (good.replace("0 1", "0 1 0 1"), 5)):
            self.parses(read_row, text, index)

    def test_more_than_eight_signals(self):
        lines = ["lines 1 1", "signals 9 1"] + ["on 0 0"] * 9 + ["back 0 0"] + ["out 0 1"] * 9
        self.parses(read_row, "\n".join(lines), 21)
        for row in (wide_row(807, 9, 1, 1, 1), wide_row(808, 1, 9, 1, 1), wide_row(809), repeated(later("0"), 5)):
            self.refuses(InvalidOperation, write_row, row)
        self.both_ways(read_row, write_row, wide_row(810, 8, 8, 3, 3))

    def test_errors(self):
        self.checks_in_order(write_row, (ADD, InvalidRow, not_rows()))


class Programs(Texts):
    def test_texts(self):
        far = Program(2, (("words", ("", "")), ("words", ("01", "11")), ("power", 1, 10 ** 100), ("join", 2, 0)))
        for program in some_programs(811, 60) + [FAR, far, Program.of(3, ("", "", "")), Program.of(1, ("01" * 2000,))]:
            self.both_ways(read_program, write_program, program)
        self.holds(write_program(far), "lines 2\nwords\nwords 01 11\npower 1 1" + "0" * 100 + "\njoin 2 0")
        self.holds(len(read_program(write_program(Program(1, (("words", ("0",)),) * 40)))), 40)

    def test_other_texts(self):
        much = "lines 1\nwords 1" + "".join([f"\npower {at} {10 ** 100}" for at in range(3)])
        self.holds(read_program(much).width, 10 ** 300)
        for text, index in ((much + f"\npower 3 {10 ** 100}", 6), (much + f"\npower 3 {10 ** 100 - 1}\njoin 4 3", 7), ("lines 1", 1), ("lines 1\njoin 0 0", 2),
                            ("lines 1\nwords 0\njoin 0 1", 3), ("lines 1\nwords 0\njoin 0 -1", 3), ("lines 1\nwords 0\npower 0 -1", 3),
                            (f"lines 1\nwords 0\npower 0 {10 ** 100 + 1}", 3), ("lines 1\nwords 0\npower 0", 2), ("lines 1\nwords 0\njoin 0 0 0", 2),
                            ("lines 1\nwords 0\nturn 0 0", 2), ("lines 4\nwords", 2), ("lines 0\nwords", 2), ("lines 2\nwords 0", 2), ("lines 1\nwords 2", 2),
                            ("lines 1\nwords 0 0", 2), ("lines 1" + "\nwords 0" * 41, 42), ("lines 1\nwords 0\npower 0 007", 2),
                            ("lines 1\nwords 0\npower 0 -0", 2), ("words 0\nlines 1", 0), ("lines 1 1\nwords 0", 0), ("lines 9" + "9" * 199 + "\nwords", 2),
                            ("lines 1\nwords 0\npower 0 1" + "0" * 199, 3), ("lines 1\nwords 0\npower 0 1" + "0" * 200, 2)):
            self.parses(read_program, text, index)
        self.holds(read_program(much + f"\npower 3 {10 ** 100 - 1}").width, 10 ** 300 * (10 ** 100 - 1))

    def test_errors(self):
        self.checks_in_order(write_program, (FAR, InvalidProgram, not_programs()))


class Conditions(Texts):
    def test_texts(self):
        for condition in CONDITIONS + some_conditions(812, 60, 2, 4):
            self.both_ways(read_condition, write_condition, condition)
        self.holds(write_condition(LOW & ~EVEN).split("\n"), ["most plain 3 1", "rest plain 0 2 1", "not", "and"])
        self.holds(write_condition(CONDITIONS[-1]), "equal plain -" + "9" * 200 + " 1")

    def test_the_parts_are_told_apart(self):
        first, second, third = LOW, EVEN, Condition("equal", (1,), 7)
        texts = [write_condition(condition) for condition in ((first & second) & third, first & (second & third), (second & first) & third)]
        self.holds(len(set(texts)), 3)
        self.assertTrue(read_condition(texts[1]) == first & (second & third) and read_condition(texts[1]) != (first & second) & third)

    def test_not_many_times_over(self):
        for many in (1, 2, 7, 5000):
            text = "most plain 3 1" + "\nnot" * many
            found = read_condition(text)
            self.holds([found.rule, len(found), found(("001",)), write_condition(found) == text], ["not", 1, many % 2 == 1, True])
        self.holds(write_condition(~found & EVEN).count("not"), 5001)
        self.parses(read_condition, text + " ", 5000)

    def test_other_texts(self):
        eight = "\n".join(["most plain 3 1"] * 8 + ["and"] * 7)
        self.holds(len(read_condition(eight)), 8)
        for text, index in (("\n".join(["most plain 3 1"] * 9 + ["or"] * 8), 17), ("most plain 3 1\nmost plain 3 1", 2), ("not", 1), ("and", 1), ("or", 1),
                            ("most plain 3 1\nand", 2), ("most plain 3 1\nmost signed 3 1\nand", 3), ("most plain 3 1\nmost plain 3 1 1\nor", 3),
                            ("most plain 3", 1), ("most plain", 1), ("most", 0), ("rest plain 0 2", 1), ("rest plain 0 0 1", 1), ("rest plain 0 61 1", 1),
                            ("rest plain 0 -1 1", 1), ("most Plain 3 1", 1), ("most x 3 1", 1), ("most 3 3 1", 1), ("most plain 3 100", 1), ("most plain 3 -100", 1),
                            ("most plain 3" + " 1" * 7, 1), ("most plain 3 x", 0), ("most plain x 1", 0), ("most plain 3 01", 0), ("most plain -0 1", 0),
                            ("equal  plain 0 1", 0), ("less plain 0 1", 0), ("most plain 3 1\nnot 1", 1), ("most plain 3 1\nNot", 1),
                            ("most plain 1" + "0" * 200 + " 1", 0), ("most plain 3 1\n\nnot", 1), ("not\nmost plain 3 1", 2)):
            self.parses(read_condition, text, index)
        self.holds(read_condition("most plain 1" + "0" * 199 + " 1").number, 10 ** 199)

    def test_errors(self):
        self.checks_in_order(write_condition, (LOW, InvalidCondition, not_conditions()))


class Values(Texts):
    def test_texts(self):
        for value in some_values(813, 400):
            text = write_value(value)
            found = read_value(text)
            self.assertTrue(found == value)
            self.holds(write_value(found), text)
        self.holds([write_value(value) for value in (None, 0, -5, "", "ab01", (), {}, (None,), ((),), {(): {}})],
                   ["none", "0", "-5", "=", "=ab01", "( )", "{ }", "( none )", "( ( ) )", "{ ( ) { } }"])

    def test_papers(self):
        for value in (alike_paper(ADD, AGAIN), fault_paper(ADD, all_faults(ADD)[0]), paper_of_tests(LOST, SLIP), rate_paper(ADD, (1, 2, 2, 1)),
                      implied_paper(EVEN, EVEN), rate_paper(times(7), (3, 4)), all_faults(ADD)):
            self.assertTrue(read_value(write_value(value)) == value)

    def test_keys_by_their_texts(self):
        self.holds(write_value({10: 1, 9: 2, -1: 3, "a": 4, None: 5, (): 6, (2,): 7, "": 8}),
                   "{ ( ) 6 ( 2 ) 7 -1 3 10 1 9 2 = 8 =a 4 none 5 }")
        found = read_value("{ ( ) 6 -1 3 10 1 9 2 =a 4 none 5 }")
        self.holds(list(found), [(), -1, 10, 9, "a", None])
        for text in ("{ 9 2 10 1 }", "{ 10 1 10 1 }", "{ 10 1 10 2 }", "{ none 5 =a 4 }", "{ =b 1 =a 1 }"):
            self.parses(read_value, text, 0)

    def test_eight_deep_and_nine_deep(self):
        def nested(depth, value=()):
            for _ in range(depth - 1):
                value = (value,)
            return value
        self.holds(write_value(nested(8)), " ".join(["("] * 8 + [")"] * 8))
        self.holds(read_value(write_value(nested(8))), nested(8))
        self.refuses(InvalidOperation, write_value, nested(9))
        self.refuses(InvalidOperation, write_value, nested(8, {0: ()}))
        for value in ({}, {0: 1}, {"a": None}):
            self.refuses(InvalidOperation, write_value, nested(9, value))
            self.holds(read_value(write_value(nested(8, value))), nested(8, value))
        self.parses(read_value, " ".join(["("] * 8 + ["{ }"] + [")"] * 8), 0)
        self.holds(write_value(nested(7, {0: ()})), "( ( ( ( ( ( { 0 ( ) } ) ) ) ) ) )")
        self.holds(write_value({nested(7): nested(7)}).count("("), 14)
        self.refuses(InvalidOperation, write_value, {nested(8): 0})
        self.refuses(InvalidOperation, write_value, {0: nested(8)})
        for many in (9, 10, 100000):
            self.parses(read_value, " ".join(["("] * many + [")"] * many), 0)
            self.parses(read_value, " ".join(["("] * many), 0)
        self.parses(read_value, " ".join(["{ 0"] * 9 + ["}"] * 9), 0)

    def test_long_integers_and_strings(self):
        for value in (10 ** 200 - 1, 1 - 10 ** 200, "a" * 4000, "z01" * 1333):
            self.holds(read_value(write_value(value)), value)
        for value in (10 ** 200, -10 ** 200, 10 ** 299, "a" * 4001, (10 ** 200,), {10 ** 200: 0}, {0: "a" * 4001}):
            self.refuses(InvalidOperation, write_value, value)
        for text in ("1" + "0" * 200, "-1" + "0" * 200, "=" + "a" * 4001, "( 1" + "0" * 200 + " )"):
            self.parses(read_value, text, 0)

    def test_values_without_a_text(self):
        for value in (True, False, "A", "a b", "2", "a\n", "=", "-", [], [0], ([],), (True,), {0: True}, {True: 0}, {0: []}, ADD, FAR, LOW, Workshop(), Shell(),
                      (ADD,), {"A": 0}, deep(0, 4), deep("0", 9), b"a"):
            self.refuses(InvalidOperation, write_value, value)

    def test_other_texts(self):
        for text in ("", " ", "()", "(", ")", "( ", "( )x", "( ) ( )", "1 2", "none none", "None", "( 1", "1 )", "( 1 ) )", "( ( )", "( }", "{ )", "{ 1 }", "{ 1 2 3 }",
                     "{ { } 1 }", "{ ( { } ) 1 }", "{ ( 1 { 2 3 } ) 4 }", "01", "-0", "+1", "-", "--1", "1.0", "a", "=A", "=a=b", "==", "=2", "= a", "( 1  2 )", "(  )", "( none, )",
                     "{  }", "0x1", "1_0"):
            self.parses(read_value, text, 0)
        for text in ("( )\n", "( )\n( )", "1\n\n", "=a\nx"):
            self.parses(read_value, text, 1)
        for text in ("\n", "\n1", "x\n1", "( \n)"):
            self.parses(read_value, text, 0)

    def test_nothing_is_shared(self):
        one, other = read_value("{ =a { } =b ( 1 ) }"), read_value("{ =a { } =b ( 1 ) }")
        one["a"][0] = 1
        self.holds(other, {"a": {}, "b": (1,)})
        value = {"b": 1, "a": {2: 3}}
        write_value(value)
        self.holds(list(value), ["b", "a"])

    def test_wide_values(self):
        value = tuple([(at, {at: "01"}) for at in range(20000)])
        self.assertTrue(read_value(write_value(value)) == value)
