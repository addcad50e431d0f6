"""Whether the inputs of a row can be told from its outputs."""

from slicerows.base.bits import is_ascending, is_input, is_within
from slicerows.base.walks import explored, steps_to
from slicerows.rows.moves import moves_of
from slicerows.rows.rows import input_at, need_row

MAX_STATES = 20000


def first_states(row):
    """The first pair states."""
    return [(0, 0, right, other, 0) for right in range(row.rights) for other in range(row.rights)]


def led_states(moves, state):
    """The pairs of the places of two columns and of a pair state to which they lead a pair state.

    `moves` are those of the row.
    """
    left, other_left, right, other_right, parted = state
    found = []
    for place, made, ahead, behind in moves[left][right]:
        for other_place, other_made, other_ahead, other_behind in moves[other_left][other_right]:
            if made == other_made:
                now = 1 if parted == 1 or place != other_place else 0
                found.append(((place, other_place), (ahead, other_ahead, behind, other_behind, now)))
    return found


def is_clash(state):
    """Whether two different inputs with one output can end at a pair state."""
    return state[2:] == (0, 0, 1)


def ways_of_states(row):
    """The walk over all pair states to which the first ones lead."""
    need_row(row)
    moves = moves_of(row)
    return explored(first_states(row), lambda state: led_states(moves, state), MAX_STATES)


def inputs_of_clash(row, ways):
    """Any two different inputs of one width with the same output, the width being as small as possible, or None."""
    for state in ways:
        if is_clash(state):
            steps = steps_to(ways, state)
            return (input_at(row, [one for one, _ in steps]), input_at(row, [other for _, other in steps]))
    return None


def same_inputs(row):
    """Any two different inputs of least width that have the same output, or None."""
    return inputs_of_clash(row, ways_of_states(row))


def is_one_to_one(row):
    """Whether different inputs of one width have different outputs, at all widths."""
    return same_inputs(row) is None


def one_paper(row):
    """A paper that a row is one-to-one, or that it is not."""
    ways = ways_of_states(row)
    both = inputs_of_clash(row, ways)
    if both is None:
        return ("one", tuple(sorted(list(ways))))
    return ("same", both[0], both[1])


def is_state_of(row, value):
    """Whether a value is a pair state."""
    if not isinstance(value, tuple) or len(value) != 5:
        return False
    most = (row.lefts - 1, row.lefts - 1, row.rights - 1, row.rights - 1, 1)
    return all([is_within(part, 0, high) for part, high in zip(value, most)])


def are_closed_states(row, value):
    """Whether a value is a tuple of pair states that shows that a row is one-to-one."""
    if not isinstance(value, tuple) or not all([is_state_of(row, state) for state in value]):
        return False
    if not is_ascending(value) or any([is_clash(state) for state in value]):
        return False
    held = {state: True for state in value}
    if not all([state in held for state in first_states(row)]):
        return False
    moves = moves_of(row)
    return all([led in held for state in value for _, led in led_states(moves, state)])


def are_same_inputs(row, one, other):
    """Whether two values are different inputs of one width that have the same output."""
    if not is_input(row.inputs, one) or not is_input(row.inputs, other) or one == other:
        return False
    # Inputs of different widths have outputs of different widths.
    return row.made(one) == row.made(other)


def is_one_paper(row, value):
    """Whether a value is a paper that a row is one-to-one, or that it is not."""
    need_row(row)
    if not isinstance(value, tuple) or len(value) not in (2, 3):
        return False
    if len(value) == 2:
        return value[0] == "one" and are_closed_states(row, value[1])
    return value[0] == "same" and are_same_inputs(row, value[1], value[2])
