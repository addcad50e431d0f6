"""Whether signals of one side are enough, and how far an output column hangs on others."""

from slicerows.base.bits import columns, is_column, is_input
from slicerows.base.walks import numbered
from slicerows.errors import InvalidOperation
from slicerows.judge.least import least_row
from slicerows.rows.rows import need_row, reached, reached_back, way_back_to, way_to


def goes_left(row):
    """Whether some row that is alike goes from the left."""
    return least_row(row).rights == 1


def goes_right(row):
    """Whether some row that is alike has one signal from the left."""
    return least_row(row).lefts == 1


def from_left(row):
    """The least row, which goes from the left."""
    found = least_row(row)
    if found.rights != 1:
        raise InvalidOperation("no row that is alike goes from the left")
    return found


def needs_paper(row):
    """A paper that a row needs signals from the right, or None."""
    need_row(row)
    told = columns(row.inputs)
    # If no reached signal makes a difference to 0 at one cell, none makes one at all.
    for left in reached(row):
        for right in reached_back(row):
            for place, column in enumerate(told):
                if row.out[left][right][place] != row.out[left][0][place]:
                    return ("needs", way_to(row, left), column, way_back_to(row, right), way_back_to(row, 0))
    return None


def is_needs_paper(row, value):
    """Whether a value is a paper that a row needs signals from the right."""
    need_row(row)
    if not isinstance(value, tuple) or len(value) != 5 or value[0] != "needs":
        return False
    _, beginning, column, end, other = value
    if not is_column(row.inputs, column) or not all([is_input(row.inputs, words) for words in (beginning, end, other)]):
        return False
    cells = row.out[row.led(0, beginning)]
    place = columns(row.inputs).index(column)
    return cells[row.led_back(0, end)][place] != cells[row.led_back(0, other)][place]


def merging(table):
    """The least number of columns that lead all signals of a table to one, whichever they are, or None."""
    marks = list(range(len(table)))
    width = 0
    while max(marks) > 0:
        # Signals get one mark when all columns lead them to one mark: then they merge one column later.
        later = numbered([tuple([marks[led] for led in line]) for line in table])
        if max(later) == max(marks):
            return None
        marks = later
        width += 1
    return width


def span(row):
    """How many columns ahead and behind an output column of a row hangs on, None for a side without a bound."""
    found = least_row(row)
    return (merging(found.on), merging(found.back))
