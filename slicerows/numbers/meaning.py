"""Whether a row keeps a condition between its inputs and its outputs at every width."""

from slicerows.base.bits import is_input, is_within
from slicerows.base.walks import explored, steps_to
from slicerows.errors import InvalidOperation
from slicerows.numbers.conditions import form_of, need_condition
from slicerows.numbers.decided import MAX_PAIRS, is_ascending_by_repr
from slicerows.numbers.forms import Reader, first_flat, flattened, nested
from slicerows.rows.moves import moves_of
from slicerows.rows.rows import input_at, need_row


def need_about(row, condition):
    """Raise unless a condition is about the input words and the output words of a row."""
    need_row(row)
    need_condition(condition)
    if condition.lines != row.inputs + row.outputs:
        raise InvalidOperation("the condition is not about the input words and the output words")


class Walker:
    """What goes along the boundaries of a row, with triples of both signals and a flat state of a condition."""

    def __init__(self, row, condition):
        form = form_of(condition)
        self.reader = Reader(form)
        self.moves = moves_of(row)
        self.many = 1 << row.outputs
        self.starts = [(0, right, first_flat(form)) for right in range(row.rights)]

    def led_triples(self, triple):
        """The pairs of the place of a column and of a triple to which it leads a triple."""
        left, right, flat = triple
        states = self.reader.flat_states(flat)
        # The column of the condition has the bits of the column, and then those of the output column.
        return [(place, (ahead, behind, states[place * self.many + made]))
                for place, made, ahead, behind in self.moves[left][right]]

    def ended(self, triple):
        """The pairs of the place of a column behind which a walk can end, and whether the condition holds there."""
        left, right, flat = triple
        truths = self.reader.truths(flat)
        return [(place, truths[place * self.many + made])
                for place, made, _, behind in self.moves[left][right] if behind == 0]

    def ways(self, limit):
        """The walk over all triples that walks have."""
        return explored(self.starts, lambda triple: self.led_triples(triple), limit)


def exception_in(row, walker, ways):
    """Any input of least width for which the condition does not hold, or None."""
    for triple in ways:
        for place, truth in walker.ended(triple):
            if not truth:
                return input_at(row, steps_to(ways, triple) + [place])
    return None


def first_exception(row, condition):
    """Any input of least width, from 1 on, for which a condition does not hold, or None."""
    need_about(row, condition)
    walker = Walker(row, condition)
    return exception_in(row, walker, walker.ways(MAX_PAIRS))


def means(row, condition):
    """Whether a row means a condition."""
    return first_exception(row, condition) is None


def meaning_paper(row, condition):
    """A paper that a row means a condition, or that it does not."""
    need_about(row, condition)
    walker = Walker(row, condition)
    ways = walker.ways(MAX_PAIRS)
    words = exception_in(row, walker, ways)
    if words is not None:
        return ("fails", words)
    form = form_of(condition)
    triples = [(left, right, nested(form, flat)) for left, right, flat in ways]
    return ("means", tuple(sorted(triples, key=lambda triple: repr(triple))))


def flat_triple(row, form, value):
    """The triple with the flat state of one with a nested state, or None if a value is none."""
    if not isinstance(value, tuple) or len(value) != 3:
        return None
    left, right, state = value
    if not is_within(left, 0, row.lefts - 1) or not is_within(right, 0, row.rights - 1):
        return None
    flat = flattened(form, state)
    return None if flat is None else (left, right, flat)


def are_meaning(row, condition, value):
    """Whether a value is a tuple of triples that shows that a row means a condition."""
    if not isinstance(value, tuple):
        return False
    triples = [flat_triple(row, form_of(condition), triple) for triple in value]
    if None in triples or not is_ascending_by_repr(value):
        return False
    walker = Walker(row, condition)
    held = {triple: True for triple in triples}
    if not all([start in held for start in walker.starts]):
        return False
    for triple in triples:
        if not all([found in held for _, found in walker.led_triples(triple)]):
            return False
        if not all([truth for _, truth in walker.ended(triple)]):
            return False
    return True


def is_meaning_paper(row, condition, value):
    """Whether a value is a paper that a row means a condition, or that it does not."""
    need_about(row, condition)
    if not isinstance(value, tuple) or len(value) != 2:
        return False
    if value[0] == "means":
        return are_meaning(row, condition, value[1])
    if value[0] != "fails" or not is_input(row.inputs, value[1]) or value[1][0] == "":
        return False
    return not condition.is_kept(value[1] + row.made(value[1]))
