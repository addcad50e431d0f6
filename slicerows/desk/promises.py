"""Promises on rows under names."""

from slicerows.back.pairs import is_one_to_one, one_paper
from slicerows.base.bits import is_name
from slicerows.errors import InvalidOperation
from slicerows.judge.alike import alike_paper, are_alike
from slicerows.judge.least import least_row
from slicerows.judge.sides import goes_left
from slicerows.numbers.conditions import Condition
from slicerows.numbers.meaning import meaning_paper, means


def has_row(rows, value):
    """Whether a value is a name that has a row."""
    return is_name(value) and value in rows


def is_promise(rows, value):
    """Whether a value is a promise on names that have rows."""
    if not isinstance(value, tuple) or not 2 <= len(value) <= 3:
        return False
    if not has_row(rows, value[1]):
        return False
    if len(value) == 2:
        return value[0] in ("left", "single")
    if value[0] == "alike":
        return has_row(rows, value[2])
    return value[0] == "means" and isinstance(value[2], Condition)


def has_lines_of(one, other):
    """Whether two rows have the same numbers of lines."""
    return one.inputs == other.inputs and one.outputs == other.outputs


def need_fitting_promise(rows, promise):
    """Raise unless the rows of a promise, and its condition, have lines that fit."""
    row = rows[promise[1]]
    if promise[0] == "alike" and not has_lines_of(row, rows[promise[2]]):
        raise InvalidOperation("the rows have other numbers of lines")
    if promise[0] == "means" and promise[2].lines != row.inputs + row.outputs:
        raise InvalidOperation("the condition is not about the input words and the output words")


def names_in(promise):
    """The names that a promise names."""
    return promise[1:] if promise[0] == "alike" else promise[1:2]


def is_held(rows, promise):
    """Whether a promise holds."""
    row = rows[promise[1]]
    if promise[0] == "alike":
        return are_alike(row, rows[promise[2]])
    if promise[0] == "left":
        return goes_left(row)
    if promise[0] == "means":
        return means(row, promise[2])
    return is_one_to_one(row)


def paper_of(rows, promise):
    """A paper that a promise holds."""
    row = rows[promise[1]]
    if promise[0] == "alike":
        return alike_paper(row, rows[promise[2]])
    if promise[0] == "left":
        return least_row(row)
    if promise[0] == "means":
        return meaning_paper(row, promise[2])
    return one_paper(row)
