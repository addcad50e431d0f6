"""The classes of signals, and the row with the fewest signals that is alike."""

from slicerows.base.bits import is_input, need_number
from slicerows.base.walks import numbers_of, parted
from slicerows.judge.together import parting_input
from slicerows.rows.rows import Row, need_row, reached_back, row_with, way_back_to, way_to, ways_of


def left_classes(row):
    """For each signal from the left the number of its class, None if it is not reached."""
    need_row(row)
    order = list(ways_of(row))
    numbers = numbers_of(order)
    steps = [[numbers[led] for led in row.on[signal]] for signal in order]
    rights = reached_back(row)
    classes = parted(steps, [tuple([row.out[signal][right] for right in rights]) for signal in order])
    return tuple([classes[numbers[signal]] if signal in numbers else None for signal in range(row.lefts)])


def right_classes(row):
    """For each signal from the right the number of its class, None if it is not reached."""
    need_row(row)
    return left_classes(~row)


def first_signals(classes):
    """For each class, in order, its least signal."""
    many = max([number for number in classes if number is not None]) + 1
    return [classes.index(number) for number in range(many)]


def class_table(classes, table):
    """The table that tells for each class, and each column, the class to which its signals are led."""
    return tuple([tuple([classes[led] for led in table[head]]) for head in first_signals(classes)])


def least_row(row):
    """The row with the fewest signals of both sides that is alike."""
    need_row(row)
    lefts, rights = left_classes(row), right_classes(row)
    heads, tails = first_signals(lefts), first_signals(rights)
    out = tuple([tuple([row.out[head][tail] for tail in tails]) for head in heads])
    return row_with(class_table(lefts, row.on), class_table(rights, row.back), out)


def is_least(value):
    """Whether a value is a row that is its own least row."""
    return isinstance(value, Row) and least_row(value) == value


def parting_end(row, one, other):
    """Any end of least width that parts two signals from the left, or None."""
    need_row(row)
    need_number(one, 0, row.lefts - 1)
    need_number(other, 0, row.lefts - 1)
    return parting_input(row, row, (one, other), (0, 0))


def parting_beginning(row, one, other):
    """Any beginning of least width that parts two signals from the right, or None."""
    need_row(row)
    need_number(one, 0, row.rights - 1)
    need_number(other, 0, row.rights - 1)
    return parting_input(row, row, (0, 0), (one, other))


def fewest_paper(row):
    """A paper that no row that is alike has fewer signals than the least row."""
    need_row(row)
    beginnings = tuple([way_to(row, signal) for signal in first_signals(left_classes(row))])
    ends = tuple([way_back_to(row, signal) for signal in first_signals(right_classes(row))])
    return ("fewest", beginnings, ends)


def are_apart(classes, signals):
    """Whether there are as many signals as classes, each of another class."""
    return len(signals) == len(first_signals(classes)) == len(set([classes[signal] for signal in signals]))


def are_inputs(lines, value):
    """Whether a value is a tuple of inputs of so many lines."""
    return isinstance(value, tuple) and all([is_input(lines, words) for words in value])


def is_fewest_paper(row, value):
    """Whether a value is a paper that no row that is alike has fewer signals than the least row."""
    need_row(row)
    if not isinstance(value, tuple) or len(value) != 3 or value[0] != "fewest":
        return False
    _, beginnings, ends = value
    if not are_inputs(row.inputs, beginnings) or not are_inputs(row.inputs, ends):
        return False
    lefts = [row.led(0, words) for words in beginnings]
    rights = [row.led_back(0, words) for words in ends]
    return are_apart(left_classes(row), lefts) and are_apart(right_classes(row), rights)
