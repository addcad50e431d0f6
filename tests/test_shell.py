"""The shell: 0.1, 0.2, 0.4, 20.1, 21.1 to 21.3 and stage 22."""

import random

from slicerows.desk.desk import Workshop
from slicerows.judge.alike import alike_paper
from slicerows.judge.least import least_row
from slicerows.numbers.conditions import Condition
from slicerows.numbers.meaning import meaning_paper
from slicerows.rows.joined import behind, beside, repeated, together
from slicerows.rows.ready import added, copied, filled, gate, greater, highest, last, later, lowest, negated, parity, picked
from slicerows.rows.ready import sooner, subtracted, times
from slicerows.text.formats import write_condition, write_row, write_value
from slicerows.text.shell import Shell
from slicerows.ticks.settling import growth_rate, longest_time
from tests.helpers import ADD, AGAIN, HALF, KINDS, ODD, TOP, Checks, same, some_rows, wide_row
from tests.test_desk import FAR, MANY, state_of
from tests.test_decided import REACHED

COPY = "lines 1 1; signals 1 1; on 0 0; back 0 0; out 0 1"
RULE = "wrapped plain 0 1 1 -1"
READY = [("added", added()), ("subtracted", subtracted()), ("negated", negated()), ("greater", greater()), ("lowest", lowest()),
         ("highest", highest()), ("filled", filled()), ("parity", parity()), ("last", last()), ("copied 2", copied(2)), ("times 5", times(5)),
         ("picked 3 2 0 2", picked(3, (2, 0, 2))), ("picked 1 0", picked(1, (0,))), ("gate 2 =0001", gate(2, "0001")), ("later =1", later("1")),
         ("sooner =0", sooner("0"))]


def line_of(text):
    """A text with `; ` in the place of each line end."""
    return text.replace("\n", "; ")


def stocked():
    """A shell with some rows and promises."""
    shell = Shell()
    for line in ("ready sum added", "ready half sooner =0", "ready neg negated", f"row copy {COPY}", f"row twin {line_of(write_row(AGAIN))}",
                 "promise same alike sum twin", f"promise rule means sum {RULE}", "promise only single neg", "promise way left twin"):
        assert shell(line) == "done", line
    return shell


# For each command a line with the right parts, of commands that take just so many.
LINES = [f"row new {COPY}", "ready new times 3", "ready new added", "ready new gate 1 =01", "ready new later =0", "ready new copied 2",
         "behind new half neg", "together new half neg", "beside new half neg", "repeated new neg 2", "mirrored new sum", "least new twin",
         "undoing new neg", "drop half", "shrink twin", "on twin 2 =00 2", "back half 0 =1 0", "out half 0 0 =1 =1", "promise new alike copy copy",
         "promise new left copy", "promise new single copy", f"promise new means sum {RULE}", "release only", "names", "labels", "show sum",
         "fewest twin", "alike sum twin", "left half", "single neg", "onto sum", f"means sum {RULE}", "implied most plain 1 1 -> most plain 2 1",
         "bounded sum", "paper same"]
ANY_MANY = ["undo", "redo", "output sum =01 =11", "rate sum 1 2 2 1", "slowest sum 7 1 2 2 1", "ready new picked 2 1 0"]


class Commands(Checks):
    def answers(self, shell, line, wanted):
        """Whether a line has an answer; one that tells an error changes nothing."""
        before = state_of(shell.workshop())
        self.holds((line, shell(line)), (line, wanted))
        if wanted != "done":
            self.holds(state_of(shell.workshop()), before)

    def test_ready_rows(self):
        for told, row in READY:
            shell = Shell()
            self.answers(shell, f"ready x {told}", "done")
            self.assertTrue(shell.workshop()["x"] == row)

    def test_rows(self):
        shell = Shell()
        for row in (ADD, AGAIN, HALF, TOP, ODD, picked(1, (0, 0)), copied(3)) + tuple(some_rows(901, 20)):
            shell = Shell()
            self.answers(shell, f"row x {line_of(write_row(row))}", "done")
            self.assertTrue(shell.workshop()["x"] == row)
            self.answers(shell, "show x", write_row(row))

    def test_rows_made_of_rows(self):
        shell = stocked()
        for line, row in (("behind x half neg", behind(HALF, negated())), ("together x neg half", together(negated(), HALF)),
                          ("beside x neg half", beside(negated(), HALF)), ("repeated x neg 3", repeated(negated(), 3)), ("mirrored x sum", ~ADD),
                          ("least x twin", ADD), ("undoing x neg", negated()), ("mirrored x half", ~HALF)):
            self.answers(shell, line, "done")
            self.assertTrue(shell.workshop()["x"] == row)
            self.answers(shell, "drop x", "done")

    def test_changes(self):
        shell = stocked()
        self.answers(shell, "on twin 2 =00 2", "done")
        self.assertTrue(shell.workshop()["twin"] == AGAIN.with_on(2, "00", 2))
        self.answers(shell, "shrink twin", "done")
        self.assertTrue(shell.workshop()["twin"] == ADD)
        self.answers(shell, "back half 1 =0 1", "done")
        self.answers(shell, "out half 0 1 =1 =0", "done")
        self.assertTrue(shell.workshop()["half"] == HALF.with_back(1, "0", 1).with_out(0, 1, "1", "0"))
        self.answers(shell, "undo 4", "done")
        self.assertTrue(shell.workshop()["half"] == HALF and shell.workshop()["twin"] == AGAIN)
        for line, wanted in (("redo", "done"), ("redo 3", "done"), ("redo", "undo 1"), ("redo 2", "undo 2"), ("undo 0", "done"), ("redo 0", "done"),
                             ("undo 99", "undo 99"), ("undo", "done"), ("drop half", "done"), ("redo", "undo 1"), ("undo 10000", "undo 10000")):
            self.answers(shell, line, wanted)

    def test_one_call_back_if_no_number_is_told(self):
        shell = stocked()
        self.holds([shell("undo"), shell("labels"), shell("undo"), shell("labels"), shell("redo"), shell("labels"), shell("undo 2"), shell("labels"), shell("redo 3"),
                    shell("labels")], ["done", "only rule same", "done", "rule same", "done", "only rule same", "done", "same", "done", "only rule same way"])

    def test_promises(self):
        shell = stocked()
        self.holds([shell("labels"), shell("release way"), shell("labels")], ["only rule same way", "done", "only rule same"])
        for line, wanted in (("keep sum", "what"), ("on sum 0 =11 0", "broken rule"), ("out sum 1 0 =00 =0", "broken rule"), ("ready sum subtracted", "broken rule"),
                             ("ready neg sooner =0", "broken only"), ("promise x left half", "broken x"), ("promise x single sum", "broken x"),
                             ("promise x alike neg half", "broken x"), ("promise x means sum equal plain 0 1 1 -1", "broken x"),
                             ("promise x alike sum half", "operation"), ("promise same left sum", "operation"), ("promise x left none", "operation"),
                             ("promise X left sum", "name"), ("promise x means neg " + RULE, "operation"), ("drop sum", "operation"),
                             ("release x", "unknown x"), ("release sum", "unknown sum"), ("paper x", "unknown x"), ("promise x alike none sum", "operation")):
            self.answers(shell, line, wanted)
        shop = shell.workshop()
        self.holds(shop.labels, ("only", "rule", "same"))
        self.holds(repr(shop.promises["rule"]), repr(("means", "sum", Condition("wrapped", (1, 1, -1), 0))))

    def test_papers(self):
        shell = stocked()
        self.answers(shell, "paper same", write_value(alike_paper(ADD, AGAIN)))
        self.answers(shell, "paper rule", write_value(meaning_paper(ADD, Condition("wrapped", (1, 1, -1), 0))))
        self.answers(shell, "paper way", write_row(ADD))
        self.assertTrue(shell("paper only").startswith("( =one ( ( 0 0 0 0 0 ) "))
        self.holds([shell("ready seven times 7"), shell("repeated big seven 2"), shell("promise big left big"), shell("paper big"), shell("show big")],
                   ["done", "done", "done", "operation", "operation"])
        # A state nine deep has no text.
        deep = "; ".join(["rest plain 0 2 1 1"] * 8 + ["or"] * 7 + ["not", "not"])
        self.holds([shell(f"promise deep means copy {deep}"), shell("paper deep")], ["done", "operation"])

    def test_questions(self):
        shell = stocked()
        for line, wanted in (("names", "copy half neg sum twin"), ("labels", "only rule same way"), ("output sum =0110 =1100", "=1001"), ("output copy =", "="),
                             ("output sum = =", "="), ("output sum =01", "input"), ("output sum =01 =011", "input"), ("output copy =01 =01", "input"),
                             ("output sum =01 =01 =01", "input"), ("output none =01", "unknown none"), ("output copy =" + "0" * 4001, "input"),
                             ("output copy =" + "01" * 2000, "=" + "01" * 2000), ("fewest twin", "2 1"), ("fewest half", "1 2"), ("fewest none", "unknown none"),
                             ("alike sum twin", "yes"), ("alike neg half", "no"), ("alike sum half", "operation"), ("alike none zero", "unknown none"),
                             ("alike sum zero", "unknown zero"), ("left sum", "yes"), ("left half", "no"), ("single neg", "yes"), ("single half", "no"),
                             ("onto sum", "yes"), ("onto half", "no"), (f"means sum {RULE}", "yes"), (f"means twin {RULE}; not", "no"),
                             ("means sum most plain 3 1", "operation"), ("means none " + RULE, "unknown none"),
                             ("implied most plain 1 1 -> most plain 2 1", "yes"), ("implied most plain 2 1 -> most plain 1 1", "no"),
                             ("implied most plain 2 1; not -> most plain 1 1; not", "yes"), ("implied most plain 2 1 -> most plain 1 1 1", "operation"),
                             ("rate sum 1 2 2 1", "2 1"), ("rate sum 1 2 2 0", "operation"), ("rate sum 1", "operation"), ("rate sum 10 2 2 1", "operation"),
                             ("rate sum 1 2 2 1 1 1 1 1", "operation"), ("rate none 1 1", "unknown none"), ("rate half 1 1", "0 1"), ("slowest sum 7 1 2 2 1", "14"),
                             ("slowest sum 4001 1 2 2 1", "number 4001"), ("slowest sum -1 1 2 2 1", "number -1"), ("slowest sum 0 1 1 1 1", "0"),
                             ("slowest sum 7 1 2", "operation"), ("slowest none 9999 1", "unknown none"), ("bounded sum", "yes"), ("bounded half", "operation"),
                             ("bounded neg", "no"), ("bounded none", "unknown none"), ("show none", "unknown none"), ("onto none", "unknown none"),
                             ("single none", "unknown none"), ("left none", "unknown none")):
            self.answers(shell, line, wanted)
        self.holds([Shell()("names"), Shell()("labels")], ["none", "none"])

    def test_against_the_functions(self):
        source = random.Random(903)
        for row in some_rows(904, 12):
            shell = Shell()
            shell(f"row x {line_of(write_row(row))}")
            delays = (source.randint(1, 9), source.randint(1, 9))
            told = f"{delays[0]} {delays[1]}"
            self.answers(shell, f"rate x {told}", "{} {}".format(*growth_rate(row, delays)))
            self.answers(shell, f"slowest x 20 {told}", str(longest_time(row, delays, 20)))
            self.answers(shell, "fewest x", f"{least_row(row).lefts} {least_row(row).rights}")
            self.answers(shell, "output x =0110", f"={row(('0110',))[0]}")

    def test_a_word_for_each_error(self):
        shell = stocked()
        for line, wanted in (("drop none", "unknown none"), ("drop NONE!", "unknown NONE!"), ("show =", "unknown ="), ("drop 5", "unknown 5"), ("ready Sum added", "name"),
                             ("ready toolongname added", "name"), ("row 1 " + COPY, "name"), ("ready x later =", "word"), ("ready x later =01", "word"),
                             ("ready x gate 2 =01", "word"), ("on sum 0 =1 0", "word"), ("out sum 0 0 =00 =", "word"), ("on sum 0 =" + "0" * 4001 + " 0", "word"),
                             ("output sum =1 =01", "input"), ("behind x sum sum", "operation"), ("ready x picked 2", "operation"), ("ready x picked 2 0 1 0 1", "operation"),
                             ("ready x picked 2 2", "operation"), ("ready sum negated", "operation"), ("undoing x sum", "operation"), ("undoing x half", "unequal"),
                             ("ready x times 9", "number 9"), ("ready x times -3", "number -3"), ("ready x copied 0", "number 0"), ("ready x picked 4 1", "number 4"),
                             ("ready x gate 0 =", "number 0"), ("repeated x neg 0", "number 0"), ("repeated x neg " + "9" * 200, "number " + "9" * 200),
                             ("on sum 2 =00 0", "number 2"), ("on sum 0 =00 2", "number 2"), ("back sum 0 =00 1", "number 1"), ("out sum 0 1 =00 =0", "number 1"),
                             ("undo 10", "undo 10"), ("redo", "undo 1"), ("repeated x sum 2", "operation"), ("together x sum neg", "operation"),
                             ("beside x sum sum", "operation")):
            self.answers(shell, line, wanted)
        for line in ("ready e copied 1", "ready f copied 1", "ready g copied 1"):
            self.answers(shell, line, "done")
        self.answers(shell, "ready h copied 1", "many 8")
        self.answers(shell, "ready H copied 1", "name")
        self.answers(shell, "ready h copied 4", "number 4")

    def test_many(self):
        shell = Shell()
        for line, wanted in (("ready late later =0", "done"), ("repeated x late 6", "many 60"), ("ready three times 3", "done"), ("repeated x three 4", "many 60"),
                             ("repeated x late 5", "done"), ("behind y x x", "many 60")):
            self.answers(shell, line, wanted)
        far = write_condition(REACHED[4001])
        self.answers(shell, f"implied {line_of(far)} -> {line_of(far)}", "many 4000")
        self.answers(shell, "means late " + line_of(write_condition(FAR)), "many 4000")
        # MANY has more than eight signals, so it is made here of a row that can be told.
        self.holds(MANY.lefts > 8, True)

    def test_the_order_of_the_checks(self):
        shell = stocked()
        # Names of rows come first, then what is made of them, then the name under which it is kept.
        for line, wanted in (("behind NEW none zero", "unknown none"), ("behind NEW sum zero", "unknown zero"), ("behind NEW sum sum", "operation"),
                             ("behind NEW half neg", "name"), ("repeated NEW none 9", "unknown none"), ("repeated NEW neg 9", "number 9"), ("repeated NEW neg 2", "name"),
                             ("undoing NEW none", "unknown none"), ("undoing NEW half", "unequal"), ("undoing NEW neg", "name"), ("mirrored NEW none", "unknown none"),
                             ("mirrored NEW sum", "name"), ("least NEW sum", "name"), ("together sum half none", "unknown none"), ("together sum half neg", "operation"),
                             ("beside NEW sum sum", "operation"), ("ready NEW times 9", "number 9"), ("ready NEW later =00", "word"), ("ready NEW times 8", "name"),
                             ("on none 9 =0 9", "unknown none"), ("on sum 9 =0 9", "number 9"), ("on sum 0 =0 9", "word"), ("out sum 0 9 =0 =", "number 9"),
                             ("promise NEW left none", "name"), ("promise new left none", "operation"), ("least sum neg", "operation"), ("mirrored sum sum", "operation")):
            self.answers(shell, line, "broken rule" if line == "mirrored sum sum" else wanted)


class Refused(Checks):
    def test_a_part_too_few_and_a_part_too_many(self):
        for line in LINES:
            self.holds((line, stocked()(line) in ("what", "operation", "name", "word")), (line, False))
            shell = stocked()
            before = state_of(shell.workshop())
            parts = line.split(" ")
            # A condition may have fewer factors, or more.
            told = 3 if line.endswith(RULE) else 0
            few = [" ".join(parts[:at]) for at in range(len(parts) - told)]
            many = [line + more for more in (" sum", " =1", " none", " ", "  ", " " + line)]
            for wrong in few + many + ([] if told or "->" in line else [line + " 1"]):
                self.holds((wrong, shell(wrong)), (wrong, "what"))
            self.holds(state_of(shell.workshop()), before)

    def test_how_many_parts_there_can_be(self):
        shell = stocked()
        for line, wanted in (("undo", "done"), ("undo 1", "done"), ("undo 1 1", "what"), ("undo x", "what"), ("undo -1", "what"), ("undo =1", "what"), ("undo -0", "what"),
                             ("redo -2", "what"), ("redo 1 2", "what"), ("undo 00", "what"), ("undo " + "1" * 201, "what"), ("output sum", "what"), ("output", "what"),
                             ("output sum =1 =1 =1", "input"), ("output sum =1 =1 =1 =1", "what"), ("output sum 1 1", "what"), ("output sum =1 =2", "what"),
                             ("rate sum", "what"), ("rate sum 1 1 1 1 1 1 1 1", "operation"), ("rate sum 1 1 1 1 1 1 1 1 1", "what"), ("rate sum 1 1 1 x", "what"),
                             ("rate", "what"), ("slowest sum 7", "what"), ("slowest sum", "what"), ("slowest sum 7 1 1 1 1 1 1 1 1", "operation"),
                             ("slowest sum 7 1 1 1 1 1 1 1 1 1", "what"), ("slowest sum x 1 1 1 1", "what"), ("ready x picked 2 0 0 0 0 0 0", "operation"),
                             ("ready x picked 2 0 0 0 0 0 0 0", "what"), ("ready x picked 2", "operation"), ("ready x picked", "what"), ("ready x picked =2 0", "what")):
            self.holds((line, shell(line)), (line, wanted))
            shell("redo")

    def test_lines_that_are_no_commands(self):
        shell = stocked()
        before = state_of(shell.workshop())
        for line in ("", " ", "x", "Names", "names ", " names", "names\n", "\nnames", "undo\n", "undo\nundo", "show  sum", "show sum\n", "ready", "ready x", "ready x adder",
                     "ready x Added", "ready x added 1", "ready x times =3", "ready x times three", "ready x times 03", "ready x times -0", "ready x later 0",
                     "ready x later =2", "ready x later =a", "ready x gate =01 1", "promise", "promise x", "promise x left", "promise x right sum", "promise x alike sum",
                     "promise x Left sum", "promise x means sum", "promise x single", "promise alike", "promise x means sum RULE", "on sum =11 0 1", "on sum 0 11 1",
                     "on sum x =11 1", "out sum 0 0 =11", "row", "row x", "row x ", "implied", "implied most plain 1 1", "implied -> most plain 1 1",
                     "implied most plain 1 1 ->", "implied most plain 1 1 -> ", "implied most plain 1 1 ->most plain 1 1", "implied a -> b -> c",
                     "implied most plain 1 1 -> most plain 1 1 -> most plain 1 1", "implied most plain 1 1 - > most plain 1 1", "promise left x sum", "workshop", "twin x",
                     "keep x sum", "set_on sum 0 =11 1", "repeated x sum two", "repeated x sum 1.0", "promise x means sum " + RULE + ";", "show\tsum", "left", "left sum sum", "show ", "drop ", "shrink ", "ready  added", "least x ",
                     "promise  left sum", "fewest "):
            self.holds((line, shell(line)), (line, "what"))
        self.holds(state_of(shell.workshop()), before)

    def test_rows_and_conditions_that_are_no_texts(self):
        shell = stocked()
        before = state_of(shell.workshop())
        wrong = ["", "x", COPY + ";", COPY + "; ", COPY.replace("; ", ";"), COPY.replace("; ", " "), COPY.replace("; ", "\n"), COPY + "; out 0 1", COPY[:-2], COPY.replace("1 1", "1 2"),
                 COPY.replace("on 0 0", "on 0 1"), COPY.replace("; ", ";  "), COPY.replace("; ", " ; "), "; " + COPY, RULE]
        # Whatever stands ahead, also a name that is none.
        for name in ("x", "NEW", "sum", "="):
            for text in wrong:
                self.holds((text, shell(f"row {name} {text}")), (text, "what"))
        for text in ("", "x", RULE + "; not 1", RULE + ";", RULE + "; and", "not", RULE + "\nnot", RULE.replace(" ", "  "), RULE + "; " + RULE, "most plain 3", COPY, "rest plain 0 1"):
            for ahead in ("means sum ", "means none ", "means ", "promise x means sum ", "promise NEW means none ", "implied most plain 1 1 -> "):
                self.holds((text, shell(ahead + text)), (text, "what"))
            self.holds((text, shell(f"implied {text} -> most plain 1 1")), (text, "what"))
        self.holds(state_of(shell.workshop()), before)

    def test_values_that_are_no_strings(self):
        shell = stocked()
        before = state_of(shell.workshop())
        for value in KINDS + (["names"], ("names",), b"names", {"names": 1}, Workshop(), Shell(), wide_row(905)):
            self.holds((shell(value), shell.answer(value)), ("what", "what"))
        self.holds(state_of(shell.workshop()), before)


class Shells(Checks):
    def test_both_ways_to_ask(self):
        one, other = Shell(), Shell()
        for line in LINES + ANY_MANY:
            self.holds(one(line), other.answer(line))
        self.assertTrue(one.workshop() == other.workshop())

    def test_the_workshop_is_a_twin(self):
        shell = stocked()
        twin = shell.workshop()
        twin.undo(many=9)
        self.holds([len(twin), shell("names"), len(shell.workshop())], [0, "copy half neg sum twin", 5])
        shell("undo 3")
        self.holds([shell.workshop().redo(many=3), shell("redo 3"), shell.workshop().undo(many=9)], [9, "done", 0])
        self.assertTrue(Shell().workshop() == Workshop())
        self.assertIsNot(shell.workshop(), shell.workshop())

    def test_each_right_line(self):
        for line in LINES + ANY_MANY:
            shell = stocked()
            shell("undo")
            shell("redo")
            shell("undo") if line == "redo" else None
            self.holds((line, shell(line) == "what"), (line, False))

    def test_equal_calls(self):
        one, other = stocked(), stocked()
        for line in LINES + ANY_MANY:
            self.holds(one(line), other(line))
        self.holds(same(state_of(one.workshop()), state_of(other.workshop())), True)
        with self.assertRaises(TypeError):
            iter(one)
        self.holds([one == other, one != other, one == one], [False, True, True])
