"""Mean times until the signals from the left have settled."""

from math import gcd

from slicerows.base.bits import is_ascending, is_index_set, is_input, need_number
from slicerows.base.walks import steps_to
from slicerows.counts.counts import led_counts, tallied
from slicerows.rows.rows import input_at, need_row
from slicerows.ticks.merging import Merges, reset_places
from slicerows.ticks.opens import Opens, led_set, need_delays
from slicerows.ticks.settling import all_led
from slicerows.ticks.solved import expected_steps

MAX_WIDTH = 400


def reduced(numerator, denominator):
    """A fraction as a pair without a common divisor."""
    common = gcd(numerator, denominator)
    return (numerator // common, denominator // common)


def open_counts(row, width):
    """For each width below this one, and for this one, the number of the inputs that do not reset the row."""
    opens = Opens(row)
    table = [tallied([led for _, led in line]) for line in opens.edges]
    counts = {0: 1} if opens.sets else {}
    found = [sum(list(counts.values()))]
    for _ in range(width):
        counts = led_counts(counts, table)
        found.append(sum(list(counts.values())))
    return found


def open_inputs(row, width):
    """The number of the inputs of a width that do not reset a row."""
    need_row(row)
    need_number(width, 0, MAX_WIDTH)
    return open_counts(row, width)[width]


def mean_time(row, delays, width):
    """The mean time of a width, as a fraction."""
    need_row(row)
    need_delays(row, delays)
    need_number(width, 0, MAX_WIDTH)
    # The shares of all widths below this one, over one denominator.
    shares = 0
    for many in open_counts(row, width)[:width]:
        shares = (shares << row.inputs) + many
    return reduced(sum(delays) * shares, 1 << (row.inputs * width))


def limit_time(row, delays):
    """The fraction to which the mean times come near, or None."""
    need_row(row)
    need_delays(row, delays)
    opens = Opens(row)
    if not opens.sets:
        return (0, 1)
    if reset_in(row, opens) is None:
        return None
    numerator, denominator = expected_steps([tallied([led for _, led in line]) for line in opens.edges], row.inputs)
    return reduced(sum(delays) * numerator, len(delays) * denominator)


def reset_in(row, opens):
    """Any input as narrow as possible that resets a row, or None."""
    if not opens.sets:
        return input_at(row, [])
    for signals, line in zip(opens.sets, opens.edges):
        kept = [place for place, _ in line]
        closing = [place for place in range(len(row.on[0])) if place not in kept]
        if closing:
            return input_at(row, steps_to(opens.first_ways, signals) + closing[:1])
    return None


def reset_input(row):
    """Any input as narrow as possible that resets a row, or None."""
    need_row(row)
    return reset_in(row, Opens(row))


def reset_paper(row):
    """A paper that some input resets a row, or that none does."""
    need_row(row)
    merges = Merges(row)
    never = merges.never()
    if never:
        return ("never", never)
    return ("resets", input_at(row, reset_places(merges)))


def is_parted_pair(row, value):
    """Whether a value is a pair of signals from the left, the less one first."""
    return is_index_set(value, row.lefts) and len(value) == 2


def are_parted_pairs(row, value):
    """Whether a value is a tuple of pairs of signals that columns lead to such pairs only."""
    if not isinstance(value, tuple) or not value or not all([is_parted_pair(row, pair) for pair in value]):
        return False
    held = {pair: True for pair in value}
    places = range(len(row.on[0]))
    return is_ascending(value) and all([led_set(row.on, pair, place) in held for pair in value for place in places])


def is_reset_paper(row, value):
    """Whether a value is a paper that some input resets a row, or that none does."""
    need_row(row)
    if not isinstance(value, tuple) or len(value) != 2:
        return False
    if value[0] == "never":
        return are_parted_pairs(row, value[1])
    if value[0] != "resets" or not is_input(row.inputs, value[1]):
        return False
    return len(all_led(row, tuple(range(row.lefts)), value[1])) == 1
