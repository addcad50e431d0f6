"""Steps of programs as words and joins alone, and what rows make of them.

A part is a step of one of these two kinds. What is told of a part hangs on the signals at its two ends only.
"""

from slicerows.base.bits import columns, columns_in
from slicerows.rows.rows import passed


def widths_of(steps):
    """For each step the number of its columns."""
    widths = []
    for step in steps:
        if step[0] == "words":
            widths.append(len(step[1][0]))
        elif step[0] == "join":
            widths.append(widths[step[1]] + widths[step[2]])
        else:
            widths.append(widths[step[1]] * step[2])
    return widths


def folded(lines, steps):
    """The parts of steps; the last part has the columns of the last step."""
    parts = []
    ends = []
    for step in steps:
        if step[0] == "words":
            parts.append(step)
        elif step[0] == "join":
            parts.append(("join", ends[step[1]], ends[step[2]]))
        else:
            add_power(parts, lines, ends[step[1]], step[2])
        ends.append(len(parts) - 1)
    return parts


def add_power(parts, lines, one, number):
    """Put parts behind all others, the last of which has so many lots of the columns of one part."""
    parts.append(("words", ("",) * lines))
    for bit in f"{number:b}":
        parts.append(("join", len(parts) - 1, len(parts) - 1))
        if bit == "1":
            parts.append(("join", len(parts) - 1, one))


def turned(parts):
    """The parts with all their columns in the opposite order."""
    found = []
    for part in parts:
        if part[0] == "words":
            found.append(("words", tuple([word[::-1] for word in part[1]])))
        else:
            found.append(("join", part[2], part[1]))
    return found


def places_in(words):
    """The places of the columns of an input in the tables of a row."""
    return [int(column, 2) for column in columns_in(words)]


def all_led(table, places):
    """For each signal of a table the one to which the columns with these places lead it."""
    signals = list(range(len(table)))
    for place in places:
        signals = [table[signal][place] for signal in signals]
    return signals


def led_by_parts(table, parts):
    """For each part and each signal of a table the signal to which the part leads it."""
    found = []
    for part in parts:
        if part[0] == "words":
            found.append(all_led(table, places_in(part[1])))
        else:
            found.append([found[part[2]][signal] for signal in found[part[1]]])
    return found


def both_led(row, parts):
    """What parts lead the signals of a row to, from the left and from the right."""
    return led_by_parts(row.on, parts), led_by_parts(row.back, turned(parts))


def made_by_words(row, words, left, right):
    """The output columns for an input whose first and last cells get these signals."""
    places = places_in(words)
    lefts = passed(row.on, left, places)
    rights = passed(row.back, right, places[::-1])[::-1]
    return [row.out[lefts[at]][rights[at + 1]][place] for at, place in enumerate(places)]


def column_at(row, parts, index):
    """The output column at an index of the last part."""
    lefts, rights = both_led(row, parts)
    widths = widths_of(parts)
    left, right = 0, 0
    part = parts[-1]
    while part[0] == "join":
        _, one, other = part
        if index < widths[one]:
            right = rights[other][right]
            part = parts[one]
        else:
            left = lefts[one][left]
            index -= widths[one]
            part = parts[other]
    return made_by_words(row, part[1], left, right)[index]


def needed_pairs(row, parts):
    """For each part the pairs of signals that stand at its two ends somewhere in the last part.

    A dict tells for each pair at a join those at both the parts that are joined, and None for each pair at words.
    """
    lefts, rights = both_led(row, parts)
    needed = [{} for _ in parts]
    needed[-1][(0, 0)] = None
    for at in reversed(range(len(parts))):
        if parts[at][0] == "join":
            _, one, other = parts[at]
            for left, right in list(needed[at]):
                first, second = (left, rights[other][right]), (lefts[one][left], right)
                needed[at][(left, right)] = (first, second)
                needed[one].setdefault(first, None)
                needed[other].setdefault(second, None)
    return needed


def rests(row, parts, base, modulus):
    """For each output line the rest of the sum of the powers of a base at the indices of bits 1 of the last part."""
    scales = []
    values = []
    for part, pairs in zip(parts, needed_pairs(row, parts)):
        if part[0] == "words":
            scales.append(power_rest(base, len(part[1][0]), modulus))
            values.append({pair: word_rests(row, part[1], pair, base, modulus) for pair in pairs})
        else:
            _, one, other = part
            scales.append(scales[one] * scales[other] % modulus)
            values.append({pair: joined_rests(values[one][first], values[other][second], scales[one], modulus)
                           for pair, (first, second) in pairs.items()})
    return values[-1][(0, 0)]


def power_rest(base, number, modulus):
    """The rest of a power."""
    rest = 1 % modulus
    for _ in range(number):
        rest = rest * base % modulus
    return rest


def word_rests(row, words, pair, base, modulus):
    """For each output line such a rest for an input between two signals."""
    found = [0] * row.outputs
    for column in made_by_words(row, words, pair[0], pair[1])[::-1]:
        found = [(base * rest + int(bit)) % modulus for rest, bit in zip(found, column)]
    return tuple(found)


def joined_rests(one, other, scale, modulus):
    """The rests of two parts, the second one behind the first one."""
    return tuple([(first + scale * second) % modulus for first, second in zip(one, other)])
