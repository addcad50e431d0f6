"""Rows made of rows, each the least one with its outputs."""

from slicerows.base.bits import MAX_LINES, columns, need_number
from slicerows.base.walks import explored, led_numbers, parted, walked
from slicerows.errors import InvalidOperation, TooMany
from slicerows.judge.least import class_table, first_signals, least_row
from slicerows.rows.rows import MAX_SIGNALS, need_row, row_with

MAX_TOLD = 2000
MAX_REPEATED = 8


def made_places(row):
    """For each two signals of a row and each column the place of the output column in the tables of a row behind."""
    places = {column: place for place, column in enumerate(columns(row.outputs))}
    return [[[places[column] for column in cell] for cell in line] for line in row.out]


def told_lead(one, other):
    """How a column, by its place, leads a told signal from the left: a pair of a signal and a tuple."""
    made = made_places(one)
    # For each signal from the left and each column: where the signals from the right look, and what is made there.
    looks = [[[(one.back[right][place], made[left][right][place]) for right in range(one.rights)]
              for place in range(len(one.on[left]))] for left in range(one.lefts)]

    def lead(state, place):
        left, told = state
        return one.on[left][place], tuple([other.on[told[right]][column] for right, column in looks[left][place]])

    return lead


def told_signals(one, other):
    """The told signals from the left that count, and for each the numbers of those to which columns lead it."""
    lead = told_lead(one, other)
    many = len(one.on[0])
    ways = walked((0, (0,) * one.rights), many, lead, MAX_TOLD)
    return list(ways), led_numbers(ways, many, lead)


def views_behind(one, other, rights):
    """For each signal from the left of the first row and each column what told signals from the right show there.

    It is told by the different triples of the signal that is ahead, the signal from the right of the second row and
    the place of its column; and by the number of its triple for each told signal.
    """
    made = made_places(one)
    found = []
    for left in range(one.lefts):
        found.append([])
        for place, ahead in enumerate(one.on[left]):
            seen = [(one.back[right][place], told[ahead], made[left][right][place]) for right, told in rights]
            numbers = {}
            order = [numbers.setdefault(look, len(numbers)) for look in seen]
            found[left].append((list(numbers), order))
    return found


def told_marks(one, other, lefts, rights):
    """For each told signal from the left a mark: equal ones make the same beside all told signals from the right."""
    views = views_behind(one, other, rights)
    numbers = {}
    marks = []
    for left, told in lefts:
        mark = []
        for looks, order in views[left]:
            made = [other.out[told[ahead]][right][place] for ahead, right, place in looks]
            mark.append(tuple([made[at] for at in order]))
        marks.append(numbers.setdefault(tuple(mark), len(numbers)))
        # Such marks can be very long, so no more of them are kept than a least row can have signals.
        if len(numbers) > MAX_SIGNALS:
            raise TooMany(MAX_SIGNALS)
    return marks


def told_cell(one, other, made, left, right):
    """The output columns for a told signal of each side."""
    head, lefts = left
    tail, rights = right
    return tuple([other.out[lefts[one.back[tail][place]]][rights[one.on[head][place]]][column]
                  for place, column in enumerate(made[head][tail])])


def behind(one, other):
    """The row whose output is that of the second row for the output of the first one."""
    need_row(one)
    need_row(other)
    if other.inputs != one.outputs:
        raise InvalidOperation("the second row has not as many input lines as the first one has output lines")
    lefts, left_steps = told_signals(one, other)
    rights, right_steps = told_signals(~one, ~other)
    left_classes = parted(left_steps, told_marks(one, other, lefts, rights), MAX_SIGNALS)
    right_classes = parted(right_steps, told_marks(~one, ~other, rights, lefts), MAX_SIGNALS)
    made = made_places(one)
    tails = [rights[tail] for tail in first_signals(right_classes)]
    out = tuple([tuple([told_cell(one, other, made, lefts[head], tail) for tail in tails])
                 for head in first_signals(left_classes)])
    return row_with(class_table(left_classes, left_steps), class_table(right_classes, right_steps), out)


def repeated(row, many):
    """The row behind itself, so many times in all."""
    need_row(row)
    need_number(many, 1, MAX_REPEATED)
    found = least_row(row)
    for _ in range(many - 1):
        found = behind(found, row)
    return found


def paired(one, other, moves):
    """The least row of two rows beside each other, each column being a pair of places in the tables of both.

    Pairs of signals of two least rows are of one class only if they are equal, so those that are reached are all.
    """
    one, other = least_row(one), least_row(other)
    lefts, on = paired_signals(one.on, other.on, moves)
    rights, back = paired_signals(one.back, other.back, moves)
    out = tuple([tuple([tuple([one.out[left[0]][right[0]][first] + other.out[left[1]][right[1]][second]
                               for first, second in moves]) for right in rights]) for left in lefts])
    return row_with(on, back, out)


def paired_signals(table, other, moves):
    """The pairs of signals that two tables lead (0, 0) to, and the table that leads their numbers."""

    def follow(pair):
        return [(first, (table[pair[0]][first], other[pair[1]][second])) for first, second in moves]

    pairs = list(explored([(0, 0)], follow, MAX_SIGNALS))
    numbers = {pair: at for at, pair in enumerate(pairs)}
    return pairs, tuple([tuple([numbers[found] for _, found in follow(pair)]) for pair in pairs])


def need_lines(inputs, outputs):
    """Raise unless there are few enough lines."""
    if inputs > MAX_LINES or outputs > MAX_LINES:
        raise InvalidOperation("there would be too many lines")


def together(one, other):
    """The row that makes the outputs of two rows for one input."""
    need_row(one)
    need_row(other)
    if one.inputs != other.inputs:
        raise InvalidOperation("the rows have other numbers of input lines")
    need_lines(one.inputs, one.outputs + other.outputs)
    return paired(one, other, [(place, place) for place in range(len(one.on[0]))])


def beside(one, other):
    """The row that makes the outputs of two rows, each for input lines of its own."""
    need_row(one)
    need_row(other)
    need_lines(one.inputs + other.inputs, one.outputs + other.outputs)
    many = len(other.on[0])
    return paired(one, other, [(first, second) for first in range(len(one.on[0])) for second in range(many)])
