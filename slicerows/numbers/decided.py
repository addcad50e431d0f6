"""What holds for conditions on all numbers: rows that keep them, and whether one implies another."""

from slicerows.base.bits import MAX_LINES, are_words, columns_with, is_ascending, words_in
from slicerows.base.walks import explored, numbers_of, parted, steps_to
from slicerows.errors import InvalidOperation
from slicerows.judge.least import class_table, first_signals
from slicerows.numbers.conditions import form_of, need_condition
from slicerows.numbers.forms import Reader, first_flat, flattened, holds_flat, led_flat, nested
from slicerows.rows.rows import MAX_SIGNALS, row_with

MAX_REACHED = 2000
MAX_PAIRS = 4000


def state_ways(condition, limit):
    """The reader of a condition, and the walk over its flat states that are reached."""
    form = form_of(condition)
    reader = Reader(form)
    return reader, explored([first_flat(form)], lambda flat: list(enumerate(reader.flat_states(flat))), limit)


def words_at(condition, places):
    """The input of the words of a condition whose columns have these places among all columns."""
    told = columns_with(condition.lines)
    return words_in(condition.lines, [told[place] for place in places])


def row_of(condition):
    """The row from the left that tells at each index whether a condition holds for the words up to there."""
    need_condition(condition)
    if condition.lines > MAX_LINES:
        raise InvalidOperation("the condition is about more words than an input can have lines")
    reader, ways = state_ways(condition, MAX_REACHED)
    numbers = numbers_of(ways)
    steps = [[numbers[found] for found in reader.flat_states(flat)] for flat in ways]
    marks = [tuple(["1" if truth else "0" for truth in reader.truths(flat)]) for flat in ways]
    classes = parted(steps, marks, MAX_SIGNALS)
    back = ((0,) * len(marks[0]),)
    return row_with(class_table(classes, steps), back, tuple([(marks[head],) for head in first_signals(classes)]))


def need_both(one, other):
    """Raise unless two values are conditions about as many words."""
    need_condition(one)
    need_condition(other)
    if one.lines != other.lines:
        raise InvalidOperation("the conditions are about other numbers of words")


def state_pairs(one, other):
    """The readers of two conditions, and the walk over the pairs of their flat states that are reached together."""
    need_both(one, other)
    first, second = Reader(form_of(one)), Reader(form_of(other))

    def follow(pair):
        return list(enumerate(list(zip(first.flat_states(pair[0]), second.flat_states(pair[1])))))

    start = (first_flat(form_of(one)), first_flat(form_of(other)))
    return first, second, explored([start], follow, MAX_PAIRS)


def failing_words(one, other):
    """Any input of least width for which the first condition holds and the second one does not, or None.

    Behind it stands the walk over the pairs of flat states.
    """
    first, second, ways = state_pairs(one, other)
    for pair in ways:
        for place, (holds, kept) in enumerate(list(zip(first.truths(pair[0]), second.truths(pair[1])))):
            if holds and not kept:
                return words_at(one, steps_to(ways, pair) + [place]), ways
    return None, ways


def is_implied(one, other):
    """Whether the first condition implies the second one."""
    words, _ = failing_words(one, other)
    return words is None


def are_same(one, other):
    """Whether each of two conditions implies the other one."""
    return is_implied(one, other) and is_implied(other, one)


def implied_paper(one, other):
    """A paper that the first condition implies the second one, or that it does not."""
    words, ways = failing_words(one, other)
    if words is not None:
        return ("fails", words)
    pairs = [(nested(form_of(one), first), nested(form_of(other), second)) for first, second in ways]
    return ("implied", tuple(sorted(pairs, key=lambda pair: repr(pair))))


def is_ascending_by_repr(value):
    """Whether the parts of a tuple are ascending by what `repr` tells of them."""
    return is_ascending([repr(part) for part in value])


def flat_pair(one, other, value):
    """The pair of flat states of a pair of nested ones, or None if a value is none."""
    if not isinstance(value, tuple) or len(value) != 2:
        return None
    first, second = flattened(one, value[0]), flattened(other, value[1])
    return None if first is None or second is None else (first, second)


def are_implying(one, other, value):
    """Whether a value is a tuple of pairs that shows that a condition with the one form implies that with the other."""
    if not isinstance(value, tuple):
        return False
    pairs = [flat_pair(one, other, pair) for pair in value]
    if None in pairs or not is_ascending_by_repr(value):
        return False
    held = {pair: True for pair in pairs}
    if (first_flat(one), first_flat(other)) not in held:
        return False
    first, second = Reader(one), Reader(other)
    for flat, behind in pairs:
        if not all([pair in held for pair in zip(first.flat_states(flat), second.flat_states(behind))]):
            return False
        if any([holds and not kept for holds, kept in zip(first.truths(flat), second.truths(behind))]):
            return False
    return True


def is_implied_paper(one, other, value):
    """Whether a value is a paper that the first condition implies the second one, or that it does not."""
    need_both(one, other)
    if not isinstance(value, tuple) or len(value) != 2:
        return False
    if value[0] == "implied":
        return are_implying(form_of(one), form_of(other), value[1])
    if value[0] != "fails" or not are_words(one.lines, value[1]) or value[1][0] == "":
        return False
    return one.is_kept(value[1]) and not other.is_kept(value[1])


def can_hold(condition):
    """Whether a condition holds for some input of a width from 1 on."""
    return first_keeping(condition) is not None


def first_keeping(condition):
    """Any input of least width, from 1 on, for which a condition holds, or None."""
    need_condition(condition)
    reader, ways = state_ways(condition, MAX_PAIRS)
    for flat in ways:
        truths = reader.truths(flat)
        if any(truths):
            return words_at(condition, steps_to(ways, flat) + [truths.index(True)])
    return None


def is_first_keeping(condition, value):
    """Whether a value is such an input of least width."""
    words = first_keeping(condition)
    if words is None or not are_words(condition.lines, value) or len(value[0]) != len(words[0]):
        return False
    return condition.is_kept(value)
