"""Programs and what rows make of far inputs: 0.1, 0.2, 0.4, 1.3, 8.1 and stage 8."""

import random

from slicerows.base.bits import is_input
from slicerows.errors import InvalidInput, InvalidNumber, InvalidOperation, InvalidProgram, InvalidRow, TooMany
from slicerows.far.programs import MAX_MODULUS, MAX_STEPS, MAX_WIDTH, Program, far_column, far_left, far_ones, far_rest
from slicerows.far.programs import far_right
from slicerows.rows.ready import copied, later, parity, sooner, times
from slicerows.rows.rows import Row, row_with
from tests.helpers import ADD, AGAIN, FAR, HALF, KINDS, LOW, ODD, TOP, Checks, cell_columns, doubled, not_inputs
from tests.helpers import not_numbers, not_programs, not_rows, output_words, random_tables, wide_row

ONE = ("words", ("1",))
FAR_POWER = 10 ** 100


def written_out(lines, steps):
    """The columns of each step, one by one, straight from 8.1."""
    found = []
    for step in steps:
        if step[0] == "words":
            found.append(cell_columns(step[1]))
        elif step[0] == "join":
            found.append(found[step[1]] + found[step[2]])
        else:
            found.append(found[step[1]] * step[2])
    return found


def some_steps(source, lines, many, widest=300):
    """Any steps that tell few columns."""
    steps = []
    while len(steps) < many:
        at = len(steps)
        kind = source.choice(("words", "join", "power")) if at else "words"
        if kind == "words":
            width = source.randint(0, 4)
            step = ("words", tuple(["".join([source.choice("01") for _ in range(width)]) for _ in range(lines)]))
        elif kind == "join":
            step = ("join", source.randrange(at), source.randrange(at))
        else:
            step = ("power", source.randrange(at), source.choice((0, 1, 2, 3, 5, 6)))
        if len(written_out(lines, steps + [step])[-1]) <= widest:
            steps.append(step)
    return tuple(steps)


def words_of_columns(lines, taken):
    """The input with these columns."""
    return tuple(["".join([column[line] for column in taken]) for line in range(lines)])


def some_programs(seed, many):
    """Programs with the inputs that they tell."""
    source = random.Random(seed)
    for _ in range(many):
        lines = source.randint(1, 3)
        steps = some_steps(source, lines, source.randint(1, 12))
        yield Program(lines, steps), words_of_columns(lines, written_out(lines, steps)[-1])


def nines():
    """The steps of a program with 10 ** 400 - 1 columns."""
    steps = [ONE] + [("power", at, FAR_POWER) for at in range(3)]
    steps += [("power", at, FAR_POWER - 1) for at in range(4)]
    return tuple(steps + [("join", 4, 5), ("join", 8, 6), ("join", 9, 7)])


class Programs(Checks):
    def test_columns(self):
        for program, words in some_programs(91, 120):
            self.holds([program.width, program.words()], [len(words[0]), words])
            self.holds([program[at] for at in range(program.width)], cell_columns(words))
            self.refuses((InvalidNumber, program.width), lambda: program[program.width])

    def test_properties(self):
        for program, words in some_programs(92, 20):
            self.holds([program.lines, len(program)], [len(words), len(program.steps)])
            self.holds(str(program), f"program of {len(program.steps)} steps, {len(words)} lines")
        self.holds(FAR.steps, (("words", ("01",)), ("power", 0, 3)))
        self.holds(str(Program.of(2, ("", ""))), "program of 1 steps, 2 lines")
        for name in ("lines", "steps", "width"):
            with self.assertRaises(AttributeError):
                setattr(FAR, name, 1)

    def test_one_and_forty_steps(self):
        self.holds([Program(1, (ONE,)).width, len(Program(1, (ONE,)))], [1, 1])
        program = Program(1, (ONE,) + tuple([("join", at, at) for at in range(39)]))
        self.holds([program.width, len(program), MAX_STEPS], [2 ** 39, 40, 40])
        for steps in ((ONE,) * 41, ()):
            self.refuses(InvalidProgram, Program, 1, steps)
        self.holds(Program(1, (ONE,) * 40).width, 1)

    def test_powers(self):
        self.holds(Program(1, (ONE, ("power", 0, 0))).words(), ("",))
        self.holds(Program(1, (ONE, ("power", 0, 0), ("power", 1, FAR_POWER))).words(), ("",))
        self.holds(Program(2, (("words", ("", "")), ("power", 0, FAR_POWER))).words(), ("", ""))
        program = Program(1, (ONE, ("power", 0, FAR_POWER)))
        self.holds([program.width, program[FAR_POWER - 1]], [FAR_POWER, "1"])
        self.refuses(InvalidProgram, Program, 1, (ONE, ("power", 0, FAR_POWER + 1)))
        self.refuses(InvalidProgram, Program, 1, (ONE, ("power", 0, -1)))

    def test_widths_up_to_the_limit(self):
        self.holds(MAX_WIDTH, 10 ** 400)
        program = Program(1, nines())
        self.holds(program.width, 10 ** 400 - 1)
        self.holds([program[0], program[10 ** 200 - 1]], ["1", "1"])
        for index in (10 ** 200, 10 ** 299, -1, 10 ** 400 - 1):
            self.refuses((InvalidNumber, index), lambda: program[index])
        for steps in (nines() + (("join", 10, 0),), nines()[:4] + (("power", 3, FAR_POWER),),
                      nines()[:4] + (("power", 3, FAR_POWER), ("power", 4, 0)), nines() + (("join", 10, 0), ONE)):
            self.refuses(TooMany, Program, 1, steps)
            with self.assertRaises(TooMany) as caught:
                Program(1, steps)
            self.holds(caught.exception.limit, 10 ** 400)
        self.holds(Program(1, nines() + (("power", 10, 0),)).width, 0)

    def test_wrong_programs(self):
        steps = [value for value in KINDS if value != ()] + [
            (), ONE, [ONE], (list(ONE),), (("words",),), (("words", "1"),), (("words", ("1", "0")),), (("join", 0, 0),),
            (("words", ("2",)),), (("words", ["1"]),), (("words", ("1",), 0),), (("word", ("1",)),), (ONE, ("join", 0, 1)),
            (ONE, ("join", 1, 0)), (ONE, ("join", -1, 0)), (ONE, ("join", 0, True)), (ONE, ("join", False, 0)),
            (ONE, ("join", 0)), (ONE, ("join", 0, 0, 0)), (ONE, ("power", 1, 2)), (ONE, ("power", 0, True)),
            (ONE, ("power", False, 1)), (ONE, ("power", 0, None)), (ONE, ("power", 0, 10 ** 200)), (ONE, ("power", 0)),
            (ONE, ("times", 0, 1)), (ONE, (None, 0, 1)), (ONE, ("join", "0", 0)), (("words", ("1" * 4001,)),), ((),),
            (ONE, None), (("power", 0, 0),), (ONE, FAR), (LOW, ONE), ((LOW, ("1",)),), (ONE, (ADD, 0, 0))]
        self.checks_in_order(Program, (1, InvalidNumber, not_numbers(1, 3)), ((ONE,), InvalidProgram, steps))
        self.refuses(InvalidProgram, Program, 1, nines() + (("join", 10, 0), ("join", 12, 0)))
        self.refuses(InvalidProgram, Program, 2, (("words", ("1", "11")),))
        self.refuses(InvalidProgram, Program, 2, (ONE,))
        self.holds(Program(1, (("words", ("1" * 4000,)),)).width, 4000)

    def test_of(self):
        for lines in (1, 2, 3):
            words = ("011",) * lines
            program = Program.of(lines, words)
            self.holds([program.lines, program.steps, program.words()], [lines, (("words", words),), words])
            self.checks_in_order(Program.of, (lines, InvalidNumber, not_numbers(1, 3)),
                                 (words, InvalidInput, not_inputs(lines)))

    def test_words_of_too_many_columns(self):
        self.holds(Program(1, (("words", ("01" * 1000,)), ("power", 0, 2))).words(), ("01" * 2000,))
        program = Program(1, (("words", ("01" * 1000,)), ("power", 0, 2), ONE, ("join", 1, 2)))
        with self.assertRaises(TooMany) as caught:
            program.words()
        self.holds([caught.exception.limit, program.width], [4000, 4001])
        self.holds(Program(1, nines()[:4] + (("power", 3, 0), ("join", 4, 0))).words(), ("1",))

    def test_indices(self):
        for value in not_numbers(0, 5):
            self.refuses((InvalidNumber, value), lambda: FAR[value])
        self.refuses((InvalidNumber, 0), lambda: Program.of(1, ("",))[0])
        self.holds([FAR[0], FAR[5]], ["0", "1"])

    def test_no_iteration(self):
        for call in (iter, list, tuple, set, lambda program: "1" in program, lambda program: [*program]):
            with self.assertRaises(TypeError):
                call(FAR)

    def test_equality(self):
        self.assertTrue(FAR == Program(1, FAR.steps))
        self.assertTrue(FAR != Program.of(1, ("010101",)))
        self.assertTrue(Program.of(1, ("",)) != Program.of(2, ("", "")))
        for value in KINDS + tuple(not_inputs(1)):
            if not isinstance(value, Program):
                self.assertIs(FAR == value, False)
                self.assertIs(FAR != value, True)


def moved(step, many):
    """A step behind so many other steps."""
    if step[0] == "words":
        return step
    return (step[0], step[1] + many, step[2] + many if step[0] == "join" else step[2])


class Operators(Checks):
    def test_join(self):
        programs = list(some_programs(93, 80))
        for (one, words), (other, others) in zip(programs, programs[1:]):
            if one.lines != other.lines:
                self.refuses(InvalidOperation, lambda: one + other)
                continue
            found = one + other
            many = len(one)
            last = ("join", many - 1, many + len(other) - 1)
            self.holds(found.steps, one.steps + tuple([moved(step, many) for step in other.steps]) + (last,))
            self.holds(found.words(), tuple([word + behind for word, behind in zip(words, others)]))

    def test_power(self):
        for program, words in some_programs(94, 40):
            for number in (0, 1, 3):
                found = program.power(number)
                self.holds(found.steps, program.steps + (("power", len(program) - 1, number),))
                self.holds(found.words(), tuple([word * number for word in words]))
        self.holds(Program(1, (ONE,)).power(FAR_POWER).width, FAR_POWER)

    def test_wrong_operands(self):
        for value in not_programs() + [Program.of(2, ("0", "1"))]:
            self.refuses(InvalidOperation, lambda other: FAR + other, value)
        for value in not_numbers(0, FAR_POWER):
            self.refuses((InvalidNumber, value), FAR.power, value)

    def test_too_many_steps(self):
        def steps(many):
            return Program(1, (ONE,) * many)

        self.holds([len(steps(20) + steps(19)), len(steps(39).power(2))], [40, 40])
        far = Program(1, nines() + (ONE,) * 18 + (("power", 10, 1),))
        for call in (lambda: steps(20) + steps(20), lambda: steps(40).power(0), lambda: far + far):
            with self.assertRaises(TooMany) as caught:
                call()
            self.holds(caught.exception.limit, 40)
        self.refuses(InvalidOperation, lambda: steps(40) + Program(2, (("words", ("1", "1")),) * 40))
        self.refuses((InvalidNumber, -1), steps(40).power, -1)

    def test_too_many_columns(self):
        program = Program(1, nines())
        for call in (lambda: program + Program(1, (ONE,)), lambda: Program(1, (ONE,)) + program,
                     lambda: program.power(2), lambda: program + program):
            with self.assertRaises(TooMany) as caught:
                call()
            self.holds(caught.exception.limit, 10 ** 400)
        self.holds((program + Program.of(1, ("",))).width, 10 ** 400 - 1)
        self.holds([program.power(1).width, program.power(0).width], [10 ** 400 - 1, 0])


class Narrow(Checks):
    """Far functions against the input itself."""

    def some(self, seed, many):
        source = random.Random(seed)
        for program, words in some_programs(seed, many):
            sizes = (source.randint(1, 4), source.randint(1, 4), program.lines, source.randint(1, 3))
            yield Row(*random_tables(source, *sizes)), program, words

    def test_signals(self):
        for row, program, words in self.some(95, 120):
            for signal in range(row.lefts):
                self.holds(far_left(row, signal, program), row.led(signal, words))
            for signal in range(row.rights):
                self.holds(far_right(row, signal, program), row.led_back(signal, words))

    def test_columns(self):
        for row, program, words in self.some(96, 80):
            made = cell_columns(output_words(row, words))
            self.holds([far_column(row, program, at) for at in range(program.width)], made)
            self.refuses((InvalidNumber, program.width), far_column, row, program, program.width)

    def test_ones_and_rests(self):
        for row, program, words in self.some(97, 120):
            made = output_words(row, words)
            self.holds(far_ones(row, program), tuple([word.count("1") for word in made]))
            for line, word in enumerate(made):
                number = int("0" + word[::-1], 2)
                for modulus in (1, 2, 3, 8, 997, 1000):
                    self.holds(far_rest(row, program, line, modulus), number % modulus)

    def test_rows_with_many_signals(self):
        row = wide_row(98, 60, 60, 2, 3)
        program = Program(2, (("words", ("0110", "1010")), ("power", 0, 7), ("join", 1, 0)))
        words = program.words()
        made = output_words(row, words)
        self.holds(far_ones(row, program), tuple([word.count("1") for word in made]))
        self.holds([far_column(row, program, at) for at in range(32)], cell_columns(made))
        self.holds([far_left(row, 59, program), far_right(row, 59, program)],
                   [row.led(59, words), row.led_back(59, words)])
        self.holds(far_ones(doubled(AGAIN), program), far_ones(ADD, program))


class Far(Checks):
    def test_ones(self):
        program = Program(1, (("words", ("0111",)),) + nines()[1:4])
        self.holds(program.width, 4 * 10 ** 300)
        self.holds(far_ones(copied(1), program), (3 * 10 ** 300,))
        self.holds(far_ones(later("1"), program), (3 * 10 ** 300,))
        self.holds(far_ones(sooner("0"), program), (3 * 10 ** 300,))
        self.holds([far_ones(ODD, program), far_ones(ODD, program + Program(1, (ONE,)))], [(0,), (4 * 10 ** 300 + 1,)])
        self.holds(far_ones(copied(1), Program(1, nines())), (10 ** 400 - 1,))
        self.holds(far_ones(TOP, program), (1,))

    def test_rests(self):
        program = Program(1, nines())
        for modulus in (1, 2, 3, 7, 30, 999, 1000):
            self.holds(far_rest(copied(1), program, 0, modulus), (pow(2, 10 ** 400 - 1, modulus) - 1) % modulus)
        program = Program(1, (("words", ("10",)), ("power", 0, FAR_POWER), ("power", 1, FAR_POWER)))
        for modulus in (7, 641, 1000):
            number = (pow(4, 10 ** 200, 3 * modulus) - 1) // 3 % modulus
            self.holds(far_rest(copied(1), program, 0, modulus), number)
            self.holds(far_rest(times(5), program + Program.of(1, ("0000",)), 0, modulus), 5 * number % modulus)

    def test_columns_and_signals(self):
        counting = [((at + 1) % 7, at) for at in range(7)]
        row = row_with(tuple(counting), ((0, 0),), tuple([((str(at % 2), "1"),) for at in range(7)]))
        program = Program(1, (("words", ("010",)), ("power", 0, 10 ** 100), ("power", 1, 10 ** 90 + 3)))
        many = 10 ** 190 + 3 * 10 ** 100
        self.holds(program.width, 3 * many)
        self.holds([far_left(row, 0, program), far_left(row, 6, program)], [2 * many % 7, (6 + 2 * many) % 7])
        self.holds(far_right(~row, 5, program), (5 + 2 * many) % 7)
        for lots in (0, 1, 10 ** 50, 10 ** 189 + 11, many - 1):
            signal = 2 * lots % 7
            self.holds([far_column(row, program, 3 * lots + at) for at in range(3)],
                       [str(signal % 2), "1", str((signal + 1) % 7 % 2)])
            back = 2 * (many - 1 - lots) % 7
            self.holds([far_column(~row, program, 3 * lots + at) for at in (2, 1, 0)],
                       [str(back % 2), "1", str((back + 1) % 7 % 2)])

    def test_indices(self):
        program = Program(1, nines())
        self.holds([far_column(HALF, program, at) for at in (0, 10 ** 200 - 1)], ["1", "1"])
        far = Program(1, (ONE, ("power", 0, 10 ** 100)))
        self.holds([far_column(HALF, far, at) for at in (0, 10 ** 100 - 2, 10 ** 100 - 1)], ["1", "1", "0"])
        self.refuses((InvalidNumber, 10 ** 100), far_column, HALF, far, 10 ** 100)
        for index in (10 ** 200, 10 ** 300):
            self.refuses((InvalidNumber, index), far_column, HALF, program, index)

    def test_rings_of_both_sides(self):
        ring = [tuple([(at + bit) % many for bit in (0, 1)]) for many in (5,) for at in range(5)]
        other = [tuple([(at + 1 - bit) % 4 for bit in (0, 1)]) for at in range(4)]
        out = tuple([tuple([(str((3 * left + right) % 2), str(left * right % 2)) for right in range(4)])
                     for left in range(5)])
        row = row_with(tuple(ring), tuple(other), out)
        one = Program(1, (("words", ("011010",)), ("power", 0, 20)))
        whole = far_ones(row, one)[0]
        self.holds(whole, output_words(row, one.words())[0].count("1"))
        self.holds(far_ones(row, one.power(10 ** 100)), (whole * 10 ** 100,))


class Errors(Checks):
    def test_in_order(self):
        program = Program.of(2, ("01", "11"))
        signals, indices = (0, InvalidNumber, not_numbers(0, 1)), (1, InvalidNumber, not_numbers(0, 1))
        first, second = (ADD, InvalidRow, not_rows()), (program, InvalidProgram, not_programs())
        self.checks_in_order(far_left, first, signals, second)
        self.checks_in_order(far_right, (~ADD, InvalidRow, not_rows()), signals, second)
        self.checks_in_order(far_column, first, second, indices)
        self.checks_in_order(far_ones, first, second)
        self.checks_in_order(far_rest, first, second, (0, InvalidNumber, not_numbers(0, 0)),
                             (7, InvalidNumber, not_numbers(1, 1000)))
        self.holds(MAX_MODULUS, 1000)

    def test_other_lines_come_last(self):
        self.refuses(InvalidOperation, far_left, ADD, 1, FAR)
        self.refuses((InvalidNumber, 2), far_left, ADD, 2, FAR)
        self.refuses(InvalidOperation, far_right, ADD, 0, FAR)
        self.refuses((InvalidNumber, 1), far_right, ADD, 1, FAR)
        self.refuses(InvalidOperation, far_column, ADD, FAR, 5)
        self.refuses((InvalidNumber, 6), far_column, ADD, FAR, 6)
        self.refuses(InvalidOperation, far_ones, ADD, FAR)
        self.refuses(InvalidOperation, far_rest, ADD, FAR, 0, 1000)
        self.refuses((InvalidNumber, 1), far_rest, ADD, FAR, 1, 1001)
        self.refuses((InvalidNumber, 1001), far_rest, ADD, FAR, 0, 1001)
        self.holds(far_rest(ADD, Program.of(2, ("1", "0")), 0, 1), 0)

    def test_programs_do_not_change(self):
        before = repr(FAR)
        for call in (lambda: FAR + FAR, lambda: FAR.power(9), FAR.words, lambda: far_ones(parity(), FAR)):
            self.holds(call(), call())
        self.holds(repr(FAR), before)
        self.assertTrue(is_input(1, FAR.words()))
