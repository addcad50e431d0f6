"""Texts of inputs, rows, programs, conditions and other values, and what has a text."""

from slicerows.base.bits import MAX_BITS, MAX_DIGITS, MAX_LINES, is_input, is_whole, is_within
from slicerows.errors import InvalidInput, InvalidNumber, InvalidOperation, ParseError, TooMany
from slicerows.far.programs import Program, are_steps, need_program
from slicerows.numbers.conditions import RULES, Condition, form_of, need_condition
from slicerows.rows.rows import MAX_PASSED, Row, are_tables, need_row

MAX_DEEP = 8
SIGNS = "abcdefghijklmnopqrstuvwxyz01"
DIGITS = "0123456789"


def line_of(head, parts):
    """A line with a word and further parts."""
    return " ".join([head] + [str(part) for part in parts])


def words_line(words):
    """The line of the words of an input."""
    return line_of("words", words if words[0] != "" else ())


def write_input(words):
    """The text of an input of one to three lines."""
    if not any([is_input(lines, words) for lines in range(1, MAX_LINES + 1)]):
        raise InvalidInput("not an input")
    return "\n".join([f"lines {len(words)}", words_line(words)])


def write_row(row):
    """The text of a row."""
    need_row(row)
    if row.lefts > MAX_PASSED or row.rights > MAX_PASSED:
        raise InvalidOperation("the row has more signals than can be passed")
    heads = [f"lines {row.inputs} {row.outputs}", f"signals {row.lefts} {row.rights}"]
    on = [line_of("on", line) for line in row.on]
    back = [line_of("back", line) for line in row.back]
    out = [line_of("out", cell) for line in row.out for cell in line]
    return "\n".join(heads + on + back + out)


def write_program(program):
    """The text of a program."""
    need_program(program)
    steps = [words_line(step[1]) if step[0] == "words" else line_of(step[0], step[1:]) for step in program.steps]
    return "\n".join([f"lines {program.lines}"] + steps)


def linear_line(linear):
    """The line of a linear condition, told by a tuple."""
    rule, factors, number, modulus, kind = linear
    return line_of(rule, (kind, number) + ((modulus,) if rule == "rest" else ()) + factors)


def write_condition(condition):
    """The text of a condition."""
    need_condition(condition)
    return "\n".join([part if isinstance(part, str) else linear_line(part) for part in form_of(condition)])


def is_sign_text(value):
    """Whether a value is a string that can stand in the text of a value."""
    return isinstance(value, str) and len(value) <= MAX_BITS and value.strip(SIGNS) == ""


def write_value(value):
    """The text of a value."""
    return value_text(value, MAX_DEEP)


def value_text(value, room):
    """The text of a value in which so many tuples and dicts may stand one in another."""
    if value is None:
        return "none"
    if is_whole(value):
        return str(value)
    if is_sign_text(value):
        return f"={value}"
    if isinstance(value, tuple) and room > 0:
        return " ".join(["("] + [value_text(part, room - 1) for part in value] + [")"])
    if isinstance(value, dict) and room > 0:
        # Different keys have different texts.
        texts = {value_text(key, room - 1): value_text(value[key], room - 1) for key in value}
        return " ".join(["{"] + [f"{text} {texts[text]}" for text in sorted(list(texts))] + ["}"])
    raise InvalidOperation("the value has no text")


def is_number(part):
    """Whether a part of a line is an integer."""
    digits = part[1:] if part.startswith("-") else part
    if digits.strip(DIGITS) != "" or not 1 <= len(digits) <= MAX_DIGITS:
        return False
    return part == "0" or not digits.startswith("0")


def are_numbers(parts):
    """Whether all parts are integers."""
    return all([is_number(part) for part in parts])


def are_so_many_numbers(parts, many):
    """Whether the parts are so many integers."""
    return len(parts) == many and are_numbers(parts)


def numbers_in(parts):
    """The integers that parts are."""
    return tuple([int(part) for part in parts])


def is_input_line(index, head, parts):
    """Whether a line can stand at an index in the text of an input."""
    if index == 0:
        return head == "lines" and are_so_many_numbers(parts, 1)
    return index == 1 and head == "words"


def is_row_line(index, head, parts):
    """Whether a line can stand at an index in the text of a row."""
    if index < 2:
        return head == ("lines", "signals")[index] and are_so_many_numbers(parts, 2)
    return head == "out" or head in ("on", "back") and are_numbers(parts)


def is_program_line(index, head, parts):
    """Whether a line can stand at an index in the text of a program."""
    if index == 0:
        return head == "lines" and are_so_many_numbers(parts, 1)
    return head == "words" or head in ("join", "power") and are_so_many_numbers(parts, 2)


def is_condition_line(_, head, parts):
    """Whether a line can stand in the text of a condition."""
    if head in ("not", "and", "or"):
        return not parts
    return head in RULES and len(parts) > 0 and are_numbers(parts[1:])


def parts_of(text, is_line):
    """The lines of a text, each as a list of its parts. Raise at the first line that has not the form of its place."""
    if not isinstance(text, str):
        raise InvalidOperation("not a string")
    lines = [line.split(" ") for line in text.split("\n")]
    for index, parts in enumerate(lines):
        if "" in parts or not is_line(index, parts[0], parts[1:]):
            raise ParseError(index)
    return lines


def told_words(lines, parts):
    """The words of a line, of width 0 if there are none."""
    return tuple(parts) if parts else ("",) * lines


def read_input(text):
    """The input with a text."""
    lines = parts_of(text, is_input_line)
    many = int(lines[0][1])
    if len(lines) < 2 or not is_within(many, 1, MAX_LINES):
        raise ParseError(len(lines))
    words = told_words(many, lines[1][1:])
    if not is_input(many, words) or write_input(words) != text:
        raise ParseError(len(lines))
    return words


def read_row(text):
    """The row with a text."""
    lines = parts_of(text, is_row_line)
    on, back = [tuple([numbers_in(parts[1:]) for parts in lines[2:] if parts[0] == head]) for head in ("on", "back")]
    cells = [tuple(parts[1:]) for parts in lines[2:] if parts[0] == "out"]
    many = len(back)
    out = tuple([tuple(cells[at * many:(at + 1) * many]) for at in range(len(on))])
    # Whatever is left over, or stands at another place, is missing in the text of the row.
    if not are_tables(on, back, out) or write_row(Row(on, back, out)) != text:
        raise ParseError(len(lines))
    return Row(on, back, out)


def step_of(lines, parts):
    """The step that a line tells."""
    return ("words", told_words(lines, parts[1:])) if parts[0] == "words" else (parts[0],) + numbers_in(parts[1:])


def read_program(text):
    """The program with a text."""
    lines = parts_of(text, is_program_line)
    many = int(lines[0][1])
    steps = tuple([step_of(many, parts) for parts in lines[1:]]) if is_within(many, 1, MAX_LINES) else ()
    try:
        found = Program(many, steps) if are_steps(many, steps) else None
    except TooMany:
        # The program would have too many columns.
        found = None
    if found is None or write_program(found) != text:
        raise ParseError(len(lines))
    return found


def linear_of(parts):
    """The linear condition that a line tells, or None."""
    rule, kind = parts[0], parts[1]
    many = 2 if rule == "rest" else 1
    numbers = numbers_in(parts[2:])
    if len(numbers) < many:
        return None
    modulus = numbers[1] if rule == "rest" else None
    try:
        return Condition(rule, numbers[many:], numbers[0], modulus=modulus, kind=kind)
    except (InvalidOperation, InvalidNumber):
        return None


def joined_of(rule, parts):
    """The condition that a rule makes of its parts, or None."""
    if rule == "not":
        return ~parts[0]
    try:
        return parts[0] & parts[1] if rule == "and" else parts[0] | parts[1]
    except (InvalidOperation, TooMany):
        return None


def condition_of(lines):
    """The condition that lines tell, or None."""
    found = []
    for parts in lines:
        many = 0 if len(parts) > 1 else 1 if parts[0] == "not" else 2
        if len(found) < many:
            return None
        made = joined_of(parts[0], found[len(found) - many:]) if many > 0 else linear_of(parts)
        if made is None:
            return None
        del found[len(found) - many:]
        found.append(made)
    return found[0] if len(found) == 1 else None


def read_condition(text):
    """The condition with a text."""
    lines = parts_of(text, is_condition_line)
    found = condition_of(lines)
    if found is None or write_condition(found) != text:
        raise ParseError(len(lines))
    return found


def atom_of(sign):
    """The value that one sign of a line tells, and False, because no dict stands in it; or None."""
    if sign == "none":
        return (None, False)
    if sign.startswith("=") and is_sign_text(sign[1:]):
        return (sign[1:], False)
    return (int(sign), False) if is_number(sign) else None


def ended(sign, worths):
    """The tuple or dict that ends with a sign, and whether a dict stands in it; or None. Its parts are told so, too."""
    values = [value for value, _ in worths]
    if sign == ")":
        return (tuple(values), any([mixed for _, mixed in worths]))
    if any([mixed for _, mixed in worths[::2]]):
        return None
    return (dict(zip(values[::2], values[1::2])), True)


def value_in(signs):
    """The first value that signs tell, in a tuple, or None. What else they tell is missing in the text of the value."""
    worths = [[]]
    for sign in signs:
        if sign in ("(", "{"):
            worths.append([])
            if len(worths) > MAX_DEEP + 1:
                return None
            continue
        found = ended(sign, worths.pop()) if sign in (")", "}") else atom_of(sign)
        if found is None or not worths:
            return None
        worths[-1].append(found)
    return worths[0][0][:1] if worths[0] else None


def read_value(text):
    """The value with a text."""
    if not isinstance(text, str):
        raise InvalidOperation("not a string")
    lines = text.split("\n")
    found = value_in(lines[0].split(" "))
    if found is None or write_value(found[0]) != lines[0]:
        raise ParseError(0)
    if len(lines) > 1:
        raise ParseError(1)
    return found[0]
