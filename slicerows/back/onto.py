"""Which outputs of a row come."""

from slicerows.back.sets import Sets, mask_of
from slicerows.base.bits import columns, columns_in, is_ascending, is_input, need_words, words_in
from slicerows.base.walks import steps_to
from slicerows.judge.alike import is_pair
from slicerows.rows.rows import need_row

MAX_SETS = 2000


def set_ways(row):
    """What leads left sets, and the walk over all of them."""
    need_row(row)
    sets = Sets(row)
    return sets, sets.walk(MAX_SETS)


def missing_in(row, sets, ways):
    """Any output, as narrow as possible, that does not come, or None."""
    told = columns(row.outputs)
    for mask in ways:
        if not sets.is_ended(mask):
            return words_in(row.outputs, [told[made] for made in steps_to(ways, mask)])
    return None


def missing_output(row):
    """Any input of the output lines, as narrow as possible, that is no output, or None."""
    sets, ways = set_ways(row)
    return missing_in(row, sets, ways)


def is_onto(row):
    """Whether each input of the output lines is an output, at all widths."""
    return missing_output(row) is None


def mask_behind(sets, words):
    """The mask of the left set to which the columns of an input of the output lines lead the first one."""
    mask = sets.start
    for column in columns_in(words):
        mask = sets.follow(mask, int(column, 2))
    return mask


def left_set(row, words):
    """The left set to which the columns of an input of the output lines lead the first one."""
    need_row(row)
    need_words(row.outputs, words)
    sets = Sets(row)
    return sets.pairs(mask_behind(sets, words))


def onto_paper(row):
    """A paper that a row is onto, or that it is not."""
    sets, ways = set_ways(row)
    words = missing_in(row, sets, ways)
    if words is None:
        return ("onto", tuple(sorted([sets.pairs(mask) for mask in ways])))
    return ("missing", words)


def is_left_set(row, value):
    """Whether a value is an ascending tuple of pairs of a signal from the left and one from the right."""
    if not isinstance(value, tuple) or not all([is_pair(pair, row.lefts, row.rights) for pair in value]):
        return False
    return is_ascending(value)


def are_closed_sets(row, value):
    """Whether a value is a tuple of left sets that shows that a row is onto."""
    if not isinstance(value, tuple) or not all([is_left_set(row, pairs) for pairs in value]):
        return False
    sets = Sets(row)
    masks = [mask_of([left * row.rights + right for left, right in pairs]) for pairs in value]
    held = {mask: True for mask in masks}
    if not is_ascending(value) or sets.start not in held:
        return False
    if not all([sets.is_ended(mask) for mask in masks]):
        return False
    return all([led in held for mask in masks for led in sets.follow_all(mask)])


def is_onto_paper(row, value):
    """Whether a value is a paper that a row is onto, or that it is not."""
    need_row(row)
    if not isinstance(value, tuple) or len(value) != 2:
        return False
    if value[0] == "onto":
        return are_closed_sets(row, value[1])
    if value[0] != "missing" or not is_input(row.outputs, value[1]):
        return False
    sets = Sets(row)
    return not sets.is_ended(mask_behind(sets, value[1]))
