"""Programs that tell inputs of very many columns, and what rows make of these."""

from slicerows.base.bits import MAX_BITS, MAX_LINES, are_words, is_within, need_number, need_words, words_in
from slicerows.errors import InvalidOperation, InvalidProgram, TooMany
from slicerows.far.folds import both_led, column_at, folded, rests, widths_of
from slicerows.rows.rows import need_row

MAX_STEPS = 40
# A product, because no exponent may be above 64; the same below.
MAX_WIDTH = 10 ** 50 * 10 ** 50 * 10 ** 50 * 10 ** 50 * 10 ** 50 * 10 ** 50 * 10 ** 50 * 10 ** 50
MAX_MODULUS = 1000
MAX_POWER = 10 ** 50 * 10 ** 50


def is_step(lines, index, value):
    """Whether a value is a step that can stand at an index, with inputs of so many lines."""
    if not isinstance(value, tuple):
        return False
    if len(value) == 2:
        return value[0] == "words" and are_words(lines, value[1])
    if len(value) != 3 or not is_within(value[1], 0, index - 1):
        return False
    if value[0] == "join":
        return is_within(value[2], 0, index - 1)
    return value[0] == "power" and is_within(value[2], 0, MAX_POWER)


def are_steps(lines, value):
    """Whether a value is a tuple of steps of a program, with inputs of so many lines."""
    if not isinstance(value, tuple) or not 1 <= len(value) <= MAX_STEPS:
        return False
    return all([is_step(lines, index, step) for index, step in enumerate(value)])


def moved(steps, many):
    """The steps with their indices when so many other steps stand ahead of them."""
    found = []
    for step in steps:
        if step[0] == "words":
            found.append(step)
        elif step[0] == "join":
            found.append(("join", step[1] + many, step[2] + many))
        else:
            found.append(("power", step[1] + many, step[2]))
    return tuple(found)


class Program:
    """An input that is told by steps, and that can have very many columns. It never changes."""

    def __init__(self, lines, steps):
        need_number(lines, 1, MAX_LINES)
        if not are_steps(lines, steps):
            raise InvalidProgram("not a tuple of steps")
        widths = widths_of(steps)
        if max(widths) >= MAX_WIDTH:
            raise TooMany(MAX_WIDTH)
        self._lines = lines
        self._steps = steps
        self._widths = tuple(widths)

    @classmethod
    def of(cls, lines, words):
        """The program with one step, which has the words of an input."""
        need_words(lines, words)
        return cls(lines, (("words", words),))

    @property
    def lines(self):
        """The number of lines of the input."""
        return self._lines

    @property
    def steps(self):
        """The steps."""
        return self._steps

    @property
    def width(self):
        """The number of columns."""
        return self._widths[-1]

    def __getitem__(self, at):
        need_number(at, 0, self._widths[-1] - 1)
        step = self._steps[-1]
        while step[0] != "words":
            ahead = self._widths[step[1]]
            if step[0] == "power":
                at = at % ahead
                step = self._steps[step[1]]
            elif at < ahead:
                step = self._steps[step[1]]
            else:
                at = at - ahead
                step = self._steps[step[2]]
        return "".join([word[at] for word in step[1]])

    def __iter__(self):
        raise TypeError("a program is not iterated over")

    def __len__(self):
        return len(self._steps)

    def __eq__(self, other):
        return isinstance(other, Program) and self._lines == other._lines and self._steps == other._steps

    def __str__(self):
        return f"program of {len(self._steps)} steps, {self._lines} lines"

    def __repr__(self):
        return f"Program({self._lines!r}, {self._steps!r})"

    def __add__(self, other):
        if not isinstance(other, Program) or other.lines != self._lines:
            raise InvalidOperation("not a program with as many lines")
        many = len(self._steps)
        steps = self._steps + moved(other.steps, many)
        return longer(self._lines, steps, ("join", many - 1, len(steps) - 1))

    def power(self, number):
        """The program with one step more, so many lots of the columns of the last one."""
        need_number(number, 0, MAX_POWER)
        return longer(self._lines, self._steps, ("power", len(self._steps) - 1, number))

    def words(self):
        """The input that the program tells."""
        if self._widths[-1] > MAX_BITS:
            raise TooMany(MAX_BITS)
        return words_in(self._lines, [self[at] for at in range(self._widths[-1])])


def longer(lines, steps, step):
    """The program with steps that are right and one more behind them."""
    if len(steps) >= MAX_STEPS:
        raise TooMany(MAX_STEPS)
    return Program(lines, steps + (step,))


def need_program(value):
    """Raise unless a value is a program."""
    if not isinstance(value, Program):
        raise InvalidProgram("not a program")


def parts_for(row, program):
    """The parts of a program that has as many lines as a row has input lines."""
    if program.lines != row.inputs:
        raise InvalidOperation("the program has other lines than the inputs of the row")
    return folded(program.lines, program.steps)


def far_left(row, signal, program):
    """The signal from the left to which the input, as a beginning, leads a signal."""
    need_row(row)
    need_number(signal, 0, row.lefts - 1)
    need_program(program)
    lefts, _ = both_led(row, parts_for(row, program))
    return lefts[-1][signal]


def far_right(row, signal, program):
    """The signal from the right to which the input, as an end, leads a signal."""
    need_row(row)
    need_number(signal, 0, row.rights - 1)
    need_program(program)
    _, rights = both_led(row, parts_for(row, program))
    return rights[-1][signal]


def far_column(row, program, index):
    """The output column at an index."""
    need_row(row)
    need_program(program)
    need_number(index, 0, program.width - 1)
    return column_at(row, parts_for(row, program), index)


def far_ones(row, program):
    """For each output line the number of bits 1 of its word."""
    need_row(row)
    need_program(program)
    # No width comes up to this modulus, so the rests are the numbers themselves.
    return rests(row, parts_for(row, program), 1, MAX_WIDTH)


def far_rest(row, program, line, modulus):
    """The rest of the plain number of the word of an output line."""
    need_row(row)
    need_program(program)
    need_number(line, 0, row.outputs - 1)
    need_number(modulus, 1, MAX_MODULUS)
    return rests(row, parts_for(row, program), 2, modulus)[line]
