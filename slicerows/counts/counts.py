"""How many inputs keep a condition or make an output, and how many outputs and bits 1 there are."""

from slicerows.back.sets import Sets, bits_of
from slicerows.base.bits import columns_in, need_number, need_words
from slicerows.base.walks import numbers_of
from slicerows.numbers.conditions import need_condition
from slicerows.numbers.decided import MAX_PAIRS, state_ways
from slicerows.numbers.meaning import Walker, need_about
from slicerows.rows.rows import input_at, need_row

MAX_SETS = 2000
MAX_COUNTED = 400


def tallied(states):
    """The pairs of a state and of how many times it comes."""
    many = {}
    for state in states:
        many[state] = many.get(state, 0) + 1
    return list(many.items())


def led_counts(counts, table):
    """For each state in how many ways one step leads there, as `counts` tells for the states ahead of it.

    `table[state]` tells the pairs of a state to which steps lead it and of how many such steps there are.
    """
    found = {}
    for state in counts:
        for led, many in table[state]:
            found[led] = found.get(led, 0) + many * counts[state]
    return found


def counted(starts, table, width):
    """For each state in how many ways so many steps lead the starts there; states without a way are left out."""
    counts = {start: 1 for start in starts}
    for _ in range(width):
        counts = led_counts(counts, table)
    return counts


def ending_count(starts, table, ended, width):
    """In how many ways so many steps, at least one, lead the starts on.

    `ended[state]` tells how many steps from a state count as last ones.
    """
    counts = counted(starts, table, width - 1)
    return sum([counts[state] * ended[state] for state in counts])


def holds_without_columns(condition):
    """Whether a condition holds for words of width 0."""
    return condition.is_kept(("",) * condition.lines)


def inputs_with(condition, width):
    """The number of the inputs of a width for which a condition holds."""
    need_condition(condition)
    need_number(width, 0, MAX_COUNTED)
    reader, ways = state_ways(condition, MAX_PAIRS)
    if width == 0:
        return int(holds_without_columns(condition))
    numbers = numbers_of(ways)
    table = [tallied([numbers[found] for found in reader.flat_states(flat)]) for flat in ways]
    return ending_count([0], table, [reader.truths(flat).count(True) for flat in ways], width)


def inputs_making(row, condition, width):
    """The number of the inputs of a width for which a condition holds for the input and its output together."""
    need_row(row)
    need_condition(condition)
    need_number(width, 0, MAX_COUNTED)
    need_about(row, condition)
    walker = Walker(row, condition)
    ways = walker.ways(MAX_PAIRS)
    if width == 0:
        return int(holds_without_columns(condition))
    numbers = numbers_of(ways)
    table = [tallied([numbers[found] for _, found in walker.led_triples(triple)]) for triple in ways]
    ended = [[truth for _, truth in walker.ended(triple)].count(True) for triple in ways]
    return ending_count([numbers[start] for start in walker.starts], table, ended, width)


def places_of(row, words):
    """The places of the columns of an input of the output lines of a row, in order."""
    need_row(row)
    need_words(row.outputs, words)
    return [int(column, 2) for column in columns_in(words)]


def inputs_for(row, words):
    """The number of the inputs whose output the words are."""
    places = places_of(row, words)
    sources = Sets(row).sources
    # Each way back from an end to the start is an input, so the steps are counted from the end on.
    tables = [[tallied([pair for _, pair in pairs]) for pairs in line] for line in sources]
    counts = {left * row.rights: 1 for left in range(row.lefts)}
    for place in places[::-1]:
        counts = led_counts(counts, tables[place])
    return sum([counts[pair] for pair in counts if pair < row.rights])


def input_for(row, words):
    """Any input whose output the words are, or None."""
    places = places_of(row, words)
    sets = Sets(row)
    masks = [sets.start]
    for place in places:
        masks.append(sets.follow(masks[-1], place))
    if not sets.is_ended(masks[-1]):
        return None
    pair = bits_of(masks[-1] & sets.ending)[0]
    taken = []
    for place, mask in list(zip(places, masks))[::-1]:
        column, pair = [source for source in sets.sources[place][pair] if (mask >> source[1]) & 1][0]
        taken.append(column)
    return input_at(row, taken[::-1])


def outputs_of(row, width):
    """The number of the different outputs of all inputs of a width."""
    need_row(row)
    need_number(width, 0, MAX_COUNTED)
    sets = Sets(row)
    ways = sets.walk(MAX_SETS)
    numbers = numbers_of(ways)
    table = [tallied([numbers[found] for found in sets.follow_all(mask)]) for mask in ways]
    counts = counted([0], table, width)
    return sum([counts[numbers[mask]] for mask in ways if sets.is_ended(mask) and numbers[mask] in counts])


def signal_counts(table, width):
    """For each width below this one in how many ways an input leads 0 to each signal of a table."""
    tallies = [tallied(line) for line in table]
    found = [{0: 1}]
    for _ in range(width):
        found.append(led_counts(found[-1], tallies))
    return found[:width]


def ones_of(row, width):
    """For each output line how many bits 1 its words have together, for all inputs of a width."""
    need_row(row)
    need_number(width, 0, MAX_COUNTED)
    lefts, rights = signal_counts(row.on, width), signal_counts(row.back, width)
    many = {}
    for ahead, behind in zip(lefts, rights[::-1]):
        for left in ahead:
            for right in behind:
                many[(left, right)] = many.get((left, right), 0) + ahead[left] * behind[right]
    return tuple([sum([number * ones_in(row.out[left][right], line) for (left, right), number in many.items()])
                  for line in range(row.outputs)])


def ones_in(cell, line):
    """How many of some output columns have the bit 1 at a line."""
    return len([column for column in cell if column[line] == "1"])
