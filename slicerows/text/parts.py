"""The parts of a command, read by kinds.

A kind is told by a letter. Of one part each: "w" any word, "n" an integer, "c" an integer of at least 0, "b" bits.
Of all that is left: "B" one to three bits, "D" one to eight integers, "O" none to six integers, "U" none or one integer
of at least 0, "R" the text of a row, "C" that of a condition, "I" those of two conditions.
"""

from slicerows.errors import ParseError
from slicerows.text.formats import is_number, read_condition, read_row

# For each kind of many parts the kind of one, and how few and how many there can be.
MANY = {"B": ("b", 1, 3), "D": ("n", 1, 8), "O": ("n", 0, 6), "U": ("c", 0, 1)}


def part_value(kind, part):
    """The value of one part, or None."""
    if kind == "w":
        return part
    if kind == "b":
        return part[1:] if part.startswith("=") and part[1:].strip("01") == "" else None
    if not is_number(part) or kind == "c" and part.startswith("-"):
        return None
    return int(part)


def many_values(kind, parts):
    """The values of all parts that are left, or None."""
    single, least, most = MANY[kind]
    if not least <= len(parts) <= most:
        return None
    values = tuple([part_value(single, part) for part in parts])
    return None if None in values else values


def condition_value(line):
    """The condition whose text, with other line ends, a line is, or None."""
    try:
        return read_condition(line.replace("; ", "\n"))
    except ParseError:
        return None


def row_value(line):
    """The row whose text, with other line ends, a line is, or None."""
    try:
        return read_row(line.replace("; ", "\n"))
    except ParseError:
        return None


def both_conditions(line):
    """The two conditions whose texts stand in a line, with an arrow between, or None."""
    one, _, other = line.partition(" -> ")
    first, second = condition_value(one), condition_value(other)
    return None if first is None or second is None else (first, second)


def rest_value(kind, parts):
    """The value of all parts that are left, or None."""
    if kind in MANY:
        return many_values(kind, parts)
    line = " ".join(parts)
    if kind == "R":
        return row_value(line)
    return condition_value(line) if kind == "C" else both_conditions(line)


def values_of(kinds, parts):
    """The values of the parts of a command, or None if they have not their kinds."""
    has_rest = kinds != "" and kinds[-1].isupper()
    singles = kinds[:-1] if has_rest else kinds
    many = len(singles)
    if len(parts) < many or len(parts) > many and not has_rest:
        return None
    values = [part_value(kind, part) for kind, part in zip(singles, parts)]
    if has_rest:
        values.append(rest_value(kinds[-1], parts[many:]))
    return None if any([value is None for value in values]) else values
