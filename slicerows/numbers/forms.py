"""Forms of conditions: tuples of linear conditions, and of "and", "or", "not" behind what they are made of.

A flat state is the tuple of the states of the linear conditions, in order. A nested state is told as the document
tells states, by pairs for "and" and "or". Forms can be long, so nothing here calls itself.
"""

from slicerows.base.bits import column_sum, columns_with
from slicerows.numbers.linear import first_state, holds_behind, is_state, next_state

JOINS = ("and", "or")


def linears_in(form):
    """The linear conditions of a form, in order."""
    return [part for part in form if isinstance(part, tuple)]


def first_flat(form):
    """The first flat state."""
    return tuple([first_state(linear) for linear in linears_in(form)])


def nested(form, flat):
    """The nested state with these states of the linear conditions."""
    states = []
    used = 0
    for part in form:
        if isinstance(part, tuple):
            states = states + [flat[used]]
            used += 1
        elif part in JOINS:
            states = states[:-2] + [(states[-2], states[-1])]
    return states[0]


def flattened(form, value):
    """The flat state of a nested one, or None if a value has not its form."""
    values = [value]
    flat = []
    # Behind the last part of a form stands nothing, so from there on the value comes apart.
    for part in form[::-1]:
        last = values[-1]
        if isinstance(part, tuple):
            if not is_state(part, last):
                return None
            flat.append(last)
            values = values[:-1]
        elif part in JOINS:
            if not isinstance(last, tuple) or len(last) != 2:
                return None
            values = values[:-1] + [last[0], last[1]]
    return tuple(flat[::-1])


def combined(form, truths):
    """Whether a condition holds if its linear conditions, in order, hold as is told."""
    held = []
    used = 0
    for part in form:
        if isinstance(part, tuple):
            held = held + [truths[used]]
            used += 1
        elif part == "not":
            held = held[:-1] + [not held[-1]]
        elif part == "and":
            held = held[:-2] + [held[-2] and held[-1]]
        else:
            held = held[:-2] + [held[-2] or held[-1]]
    return held[0]


def written(form):
    """What makes a condition with a form, as Python reads it."""
    texts = []
    for part in form:
        if isinstance(part, tuple):
            rule, factors, number, modulus, kind = part
            texts = texts + [f"Condition({rule!r}, {factors!r}, {number!r}, modulus={modulus!r}, kind={kind!r})"]
        elif part == "not":
            texts = texts[:-1] + [f"~{texts[-1]}"]
        else:
            sign = "&" if part == "and" else "|"
            texts = texts[:-2] + [f"({texts[-2]} {sign} {texts[-1]})"]
    return texts[0]


def led_flat(form, flat, column):
    """The flat state to which a column leads a flat state."""
    return tuple([next_state(linear, state, column_sum(linear[1], column))
                  for linear, state in zip(linears_in(form), flat)])


def holds_flat(form, flat, column):
    """Whether a condition holds at a flat state and a last column."""
    return combined(form, [holds_behind(linear, state, column_sum(linear[1], column))
                           for linear, state in zip(linears_in(form), flat)])


class Reader:
    """What reads columns for a form: it goes from flat state to flat state, for all columns at once."""

    def __init__(self, form):
        self.form = form
        self.linears = linears_in(form)
        told = columns_with(len(self.linears[0][1]))
        # What is asked for each state is worked out once for each linear condition.
        self.sums = [[column_sum(linear[1], column) for column in told] for linear in self.linears]

    def flat_states(self, flat):
        """The flat states to which all columns, in order, lead a flat state."""
        states = [[next_state(linear, state, total) for total in sums]
                  for linear, state, sums in zip(self.linears, flat, self.sums)]
        return list(zip(*states))

    def truths(self, flat):
        """Whether the condition holds at a flat state and a last column, for all columns in order."""
        held = [[holds_behind(linear, state, total) for total in sums]
                for linear, state, sums in zip(self.linears, flat, self.sums)]
        return [combined(self.form, column) for column in zip(*held)]
