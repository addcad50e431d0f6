"""Whether two rows make the same outputs at all widths."""

from slicerows.base.bits import is_ascending, is_input, is_within
from slicerows.errors import InvalidOperation
from slicerows.judge.together import pair_ways, parting_input, views
from slicerows.rows.rows import need_row

FIRST = (0, 0)


def need_fitting(one, other):
    """Raise unless two values are rows with the same numbers of lines."""
    need_row(one)
    need_row(other)
    if one.inputs != other.inputs or one.outputs != other.outputs:
        raise InvalidOperation("the rows have other numbers of lines")


def left_pairs(one, other):
    """All pairs of signals from the left that are reached together, ascending."""
    need_fitting(one, other)
    return tuple(sorted(list(pair_ways(one, other, FIRST))))


def right_pairs(one, other):
    """All pairs of signals from the right that are reached together, ascending."""
    need_fitting(one, other)
    return left_pairs(~one, ~other)


def are_alike(one, other):
    """Whether two rows are alike."""
    return unlike_input(one, other) is None


def unlike_input(one, other):
    """Any input of least width for which two rows make different outputs, or None."""
    need_fitting(one, other)
    return parting_input(one, other, FIRST, FIRST)


def alike_paper(one, other):
    """A paper that two rows are alike, or that they are not."""
    words = unlike_input(one, other)
    if words is None:
        return ("alike", left_pairs(one, other), right_pairs(one, other))
    return ("unlike", words)


def is_pair(value, many, others):
    """Whether a value is a pair of signals, of so many ones each."""
    if not isinstance(value, tuple) or len(value) != 2:
        return False
    return is_within(value[0], 0, many - 1) and is_within(value[1], 0, others - 1)


def are_led_pairs(value, table, other):
    """Whether a value is an ascending tuple of pairs that has the first one and all those to which it leads.

    Both tables tell for each signal of a row and each column the signal that is handed on.
    """
    if not isinstance(value, tuple) or not all([is_pair(pair, len(table), len(other)) for pair in value]):
        return False
    if not is_ascending(value):
        return False
    held = {pair: True for pair in value}
    led = [both for pair in value for both in zip(table[pair[0]], other[pair[1]])]
    return FIRST in held and all([pair in held for pair in led])


def is_alike_paper(one, other, value):
    """Whether a value is a paper that two rows are alike, or that they are not."""
    need_fitting(one, other)
    if not isinstance(value, tuple):
        return False
    if len(value) == 2 and value[0] == "unlike":
        return is_input(one.inputs, value[1]) and one.made(value[1]) != other.made(value[1])
    if len(value) != 3 or value[0] != "alike":
        return False
    _, lefts, rights = value
    if not are_led_pairs(lefts, one.on, other.on) or not are_led_pairs(rights, one.back, other.back):
        return False
    mine, others = views(one, other, list(rights))
    return all([mine[pair[0]] == others[pair[1]] for pair in lefts])
