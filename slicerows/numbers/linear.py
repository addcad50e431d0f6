"""Linear conditions, told as tuples of a rule, factors, a number, a modulus and a kind, and their states."""

from slicerows.base.bits import is_whole, is_within


def first_state(linear):
    """The first state."""
    rule, _, number, modulus, _ = linear
    return (number % modulus, 1 % modulus) if rule == "rest" else number


def next_state(linear, state, total):
    """The state to which a column with this sum of factors leads a state."""
    rule, _, _, modulus, _ = linear
    if rule == "rest":
        return ((state[0] - state[1] * total) % modulus, 2 * state[1] % modulus)
    if rule != "most" and (state is None or (state - total) % 2 == 1):
        return None
    return (state - total) // 2


def holds_behind(linear, state, total):
    """Whether a linear condition holds at a state and a last column with this sum of factors."""
    rule, _, _, modulus, kind = linear
    if state is None:
        return False
    # The last bit of a signed number stands for the opposite of what it stands for in a plain one.
    weight = total if kind == "plain" else -total
    if rule == "rest":
        return (state[0] - state[1] * weight) % modulus == 0
    return is_left(rule, state - weight, 2)


def is_left(rule, number, modulus):
    """Whether a rule allows what is left of its number when the sum is taken from it, with the modulus of the rule."""
    if rule == "equal":
        return number == 0
    if rule == "most":
        return number >= 0
    return number % modulus == 0


def is_met(linear, numbers, width):
    """Whether a linear condition holds for the numbers of words of a width."""
    rule, factors, number, modulus, _ = linear
    total = sum([factor * worth for factor, worth in zip(factors, numbers)])
    return is_left(rule, number - total, modulus if rule == "rest" else 1 << width)


def is_state(linear, value):
    """Whether a value has the form of a state."""
    rule, _, _, modulus, _ = linear
    if rule == "rest":
        return isinstance(value, tuple) and len(value) == 2 and all([is_within(rest, 0, modulus - 1) for rest in value])
    return is_whole(value) or rule != "most" and value is None
