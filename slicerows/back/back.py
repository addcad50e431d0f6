"""Rows that lead outputs back to inputs."""

from slicerows.back.onto import MAX_SETS
from slicerows.back.pairs import same_inputs
from slicerows.back.sets import Sets, bits_of
from slicerows.base.bits import columns, need_number
from slicerows.base.walks import led_numbers, parted
from slicerows.errors import InvalidOperation, SameOutput
from slicerows.judge.least import class_table, first_signals, least_row
from slicerows.rows.joined import MAX_REPEATED, behind
from slicerows.rows.moves import moves_of
from slicerows.rows.ready import copied
from slicerows.rows.rows import MAX_SIGNALS, need_row, row_with


class Side:
    """The left sets of a row as masks, in the order of the first ways to them; those of `~row` are its right sets."""

    def __init__(self, row):
        self.row = row
        self.found = Sets(row)
        ways = self.found.walk(MAX_SETS)
        self.masks = list(ways)
        self.leads = led_numbers(ways, 1 << row.outputs, lambda mask, made: self.found.follow(mask, made))

    def marks(self, others):
        """For each left set a mark that tells which columns fit between it and right sets, the left sets of `others`.

        Its bit (made * columns + place) * sets + index is 1 if the column with a place makes the output column with
        the place `made` between this left set and the right set with an index.
        """
        views = views_of(self.row, others.masks)
        found = []
        for mask in self.masks:
            mark = 0
            for pair in bits_of(mask):
                mark |= views[pair]
            found.append(mark)
        return found


def holders_of(masks, many):
    """For each of so many bits a mask with bits 1 at the indices of those masks that have it."""
    found = [0] * many
    for index, mask in enumerate(masks):
        for at in bits_of(mask):
            found[at] |= 1 << index
    return found


def views_of(row, masks):
    """For each pair of signals such a mark; the right sets are told by masks, with the signals in the other order."""
    holders = holders_of(masks, row.lefts * row.rights)
    many = len(row.on[0])
    found = []
    for line in moves_of(row):
        for moves in line:
            mark = 0
            for place, made, ahead, behind_it in moves:
                mark |= holders[behind_it * row.lefts + ahead] << ((made * many + place) * len(masks))
            found.append(mark)
    return found


def fitting_place(mark, made, index, many, sets):
    """The place of the one column that makes an output column between a left set and the right set with an index."""
    return [place for place in range(many) if (mark >> ((made * many + place) * sets + index)) & 1][0]


def need_square(row):
    """Raise unless a row has as many output lines as input lines."""
    if row.outputs != row.inputs:
        raise InvalidOperation("the row has not as many output lines as input lines")


def undoing(row):
    """The row whose output, for each output of a one-to-one row, is the input of this output."""
    need_row(row)
    need_square(row)
    both = same_inputs(row)
    if both is not None:
        raise SameOutput(both[0], both[1])
    lefts, rights = Side(row), Side(~row)
    left_marks, right_marks = lefts.marks(rights), rights.marks(lefts)
    left_classes = parted(lefts.leads, left_marks, MAX_SIGNALS)
    right_classes = parted(rights.leads, right_marks, MAX_SIGNALS)
    told = columns(row.inputs)
    many = len(told)
    tails = first_signals(right_classes)
    out = tuple([tuple([tuple([told[fitting_place(left_marks[head], made, tail, many, len(rights.masks))]
                               for made in range(many)]) for tail in tails])
                 for head in first_signals(left_classes)])
    return row_with(class_table(left_classes, lefts.leads), class_table(right_classes, rights.leads), out)


def is_undone(row, other):
    """Whether the second row undoes the first one."""
    need_row(row)
    need_row(other)
    if other.inputs != row.outputs or other.outputs != row.inputs:
        raise InvalidOperation("the second row has not the lines that lead back")
    return behind(row, other) == copied(row.inputs)


def cycle_length(row, most):
    """The least number of times that a row, behind itself so often, copies all inputs, or None."""
    need_row(row)
    need_number(most, 1, MAX_REPEATED)
    need_square(row)
    found = least_row(row)
    for many in range(1, most + 1):
        if found == copied(row.inputs):
            return many
        if many < most:
            found = behind(found, row)
    return None
