"""What the tests share: values, wrong values, checks, and rows worked out straight from their definition."""

import copy
import itertools
import random
import unittest

from slicerows import errors
from slicerows.desk.desk import Workshop
from slicerows.far.programs import Program
from slicerows.numbers.conditions import Condition
from slicerows.rows.ready import highest, parity, sooner
from slicerows.rows.rows import Row, row_with
from slicerows.text.shell import Shell

ADD = Row(((0, 0, 0, 1), (0, 1, 1, 1)), ((0, 0, 0, 0),), ((("0", "1", "1", "0"),), (("1", "0", "0", "1"),)))
HALF = sooner("0")
TOP = highest()
ODD = parity()
AGAIN = Row(((0, 2, 2, 1), (0, 1, 1, 1), (0, 2, 2, 1)), ((0, 0, 0, 0),),
            ((("0", "1", "1", "0"),), (("1", "0", "0", "1"),), (("0", "1", "1", "0"),)))


FAR = Program(1, (("words", ("01",)), ("power", 0, 3)))
LOW = Condition("most", (1,), 3)


def deep(value, depth):
    """A value inside so many tuples, lists and dicts."""
    for at in range(depth):
        value = ((value,), [value], {"a": value})[at % 3]
    return value


KINDS = (None, True, False, "", "x", "0 1", "01\n", "~" * 5000, (), (None,), [], [0], ["0"], {}, {0: "0"}, {"0": 0},
         -1, 10 ** 199, 10 ** 200, -10 ** 200, 10 ** 299, (True,), ((),), ADD, (ADD,), [ADD], FAR, LOW, (LOW, FAR),
         deep(0, 10), deep("0", 9), Workshop(), (Workshop(),), Shell())


def not_numbers(low, high):
    """Values that are no integers from a low one to a high one."""
    return [value for value in KINDS if not (type(value) is int and low <= value <= high)] + [low - 1, high + 1]


def not_whole():
    """Values that are no integers as the document tells them."""
    return not_numbers(-10 ** 200 + 1, 10 ** 200 - 1)


def not_words():
    """Values that are no words."""
    return [value for value in KINDS if value != ""] + ["2", "0a", "-1", " 0", "0" * 4001, 1, ("0",)]


def not_columns(lines):
    """Values that are no columns of so many bits."""
    return not_words() + ["", "0" * (lines - 1) + "2", "0" * (lines + 1), "0" * (lines - 1), ("0",) * lines]


def not_inputs(lines):
    """Values that are no inputs of so many lines."""
    words = ("01",) * lines
    found = list(KINDS) + ["0" * lines, list(words), words[1:], words + ("01",), words[1:] + ("0a",),
                           words[1:] + (None,), words[1:] + (1,), ("0" * 4001,) * lines, (["0"],) * lines,
                           words[1:] + (words,), {at: "0" for at in range(lines)}, (b"0",) * lines]
    return found + [words[1:] + ("010",)] if lines > 1 else found


def not_rows():
    """Values that are no rows."""
    return [value for value in KINDS if not isinstance(value, Row)] + [ADD.on, (ADD.on, ADD.back, ADD.out)]


def not_programs():
    """Values that are no programs."""
    return [value for value in KINDS if not isinstance(value, Program)] + [FAR.steps, (1, FAR.steps), "words"]


def not_conditions():
    """Values that are no conditions."""
    return [value for value in KINDS if not isinstance(value, Condition)] + ["most", ("most", (1,), 3), LOW.first]


def same(one, other):
    """Whether two values are equal with all their kinds, so that True is not 1."""
    return repr(one) == repr(other)


def spoiled(value):
    """Values in which one part of a value is of another kind."""
    for other in (None, True, "x", -1, 10 ** 200, [], {}, ADD, deep(0, 10)):
        yield other
    if isinstance(value, tuple):
        yield list(value)
        yield value + (None,)
        for at, part in enumerate(value):
            for other in spoiled(part):
                yield value[:at] + (other,) + value[at + 1:]
    elif isinstance(value, dict):
        yield tuple(value.items())
        for key in value:
            rest = {other: value[other] for other in value if other != key}
            yield rest
            for other in spoiled(value[key]):
                yield {**rest, key: other}
            for other in spoiled(key):
                if is_key(other):
                    yield {**rest, other: value[key]}
    elif value in (0, 1):
        yield bool(value)


def is_key(value):
    """Whether a value can be a key of a dict."""
    try:
        hash(value)
    except TypeError:
        return False
    return True


def all_words(lines, width):
    """All inputs of so many lines of a width."""
    words = ["".join(bits) for bits in itertools.product("01", repeat=width)]
    return list(itertools.product(words, repeat=lines))


def cell_columns(words):
    """The columns of an input."""
    return ["".join([word[at] for word in words]) for at in range(len(words[0]))]


def place_of(column):
    """The place of a column in the tables."""
    return int(column, 2)


def run(row, words, first=0, final=0):
    """The output columns of a row, with these signals at its first and its last boundary, straight from 0.9."""
    told = [place_of(column) for column in cell_columns(words)]
    lefts = {0: first}
    for at, place in enumerate(told):
        lefts[at + 1] = row.on[lefts[at]][place]
    rights = {len(told): final}
    for at in range(len(told) - 1, -1, -1):
        rights[at] = row.back[rights[at + 1]][told[at]]
    return tuple([row.out[lefts[at]][rights[at + 1]][place] for at, place in enumerate(told)])


def output_words(row, words):
    """The output of a row for an input, straight from its definition."""
    made = run(row, words)
    return tuple(["".join([column[line] for column in made]) for line in range(row.outputs)])


def random_tables(source, lefts, rights, inputs, outputs):
    """Tables of a row with any entries."""
    many = 2 ** inputs
    made = ["".join(bits) for bits in itertools.product("01", repeat=outputs)]
    on = tuple([tuple([source.randrange(lefts) for _ in range(many)]) for _ in range(lefts)])
    back = tuple([tuple([source.randrange(rights) for _ in range(many)]) for _ in range(rights)])
    out = tuple([tuple([tuple([source.choice(made) for _ in range(many)]) for _ in range(rights)])
                 for _ in range(lefts)])
    return on, back, out


def poor_tables(source, lefts, rights, inputs, outputs):
    """Tables that make one output column nearly everywhere, so that few signals are of classes of their own."""
    on, back, out = random_tables(source, lefts, rights, inputs, outputs)
    at = (source.randrange(lefts), source.randrange(rights), source.randrange(2 ** inputs))
    zero = "0" * outputs
    out = tuple([tuple([tuple([column if (left, right, place) == at else zero for place, column in enumerate(cell)])
                        for right, cell in enumerate(line)]) for left, line in enumerate(out)])
    return on, back, out


def some_rows(seed, many, most=4, inputs=1, outputs=1):
    """So many rows of few signals, every second one with poor tables."""
    source = random.Random(seed)
    found = []
    for at in range(many):
        make = poor_tables if at % 2 else random_tables
        found.append(Row(*make(source, source.randint(1, most), source.randint(1, most), inputs, outputs)))
    return found


def wide_row(seed, lefts=60, rights=60, inputs=3, outputs=3, make=random_tables):
    """A row as calls return it, with more signals than can be passed to Row."""
    return row_with(*make(random.Random(seed), lefts, rights, inputs, outputs))


def doubled(row):
    """A row that is alike, with each signal twice, and with one more of each side that nothing leads to."""
    many = 2 ** row.inputs
    lefts, rights = row.lefts, row.rights

    def table(old, size):
        lines = [tuple([led + size * (place % 2) for place, led in enumerate(line)]) for line in old + old]
        return tuple(lines + [(2 * size,) * many])

    def line_of(line):
        return line + line + (("1" * row.outputs,) * many,)

    lines = [line_of(line) for line in row.out]
    far = line_of(row.out[0])
    return row_with(table(row.on, lefts), table(row.back, rights), tuple(lines + lines + [far]))


class Checks(unittest.TestCase):
    """Checks that the tests share."""

    def holds(self, got, wanted):
        """Whether a result is equal with all its kinds."""
        self.assertTrue(same(got, wanted), f"{got!r} is not {wanted!r}")

    def refuses(self, error, call, *given):
        """Whether a call raises just this error, keeps its arguments, and tells the value that is none."""
        before = copy.deepcopy(given)
        wanted = error if isinstance(error, tuple) else (error,)
        try:
            got = call(*given)
        except Exception as raised:
            self.assertIs(type(raised), wanted[0], f"{raised!r} for {given!r:.300}")
            if wanted[1:]:
                self.holds(raised.value, wanted[1])
        else:
            self.fail(f"{got!r:.300} instead of {wanted[0].__name__} for {given!r:.300}")
        self.holds(given, before)

    def checks_in_order(self, call, *parameters):
        """Whether wrong arguments are refused, of two at once the first one.

        Each parameter is told by a right argument, an error class and wrong arguments.
        """
        right = [parameter[0] for parameter in parameters]
        for at, (_, error, wrong) in enumerate(parameters):
            for value in wrong:
                given = list(right)
                given[at] = value
                self.refuses(self.told(error, value), call, *given)
                for later in range(at + 1, len(parameters)):
                    for other in parameters[later][2][:4]:
                        both = list(given)
                        both[later] = other
                        self.refuses(self.told(error, value), call, *both)

    def told(self, error, value):
        """The error that is wanted, with the value that it keeps."""
        return (error, value) if error is errors.InvalidNumber else error

    def judges(self, judge, value, wanted):
        """Whether a judge returns just True or False, and keeps the value."""
        before = copy.deepcopy(value)
        self.assertIs(judge(value), wanted, f"{value!r:.300}")
        self.holds(value, before)

    def refuses_spoiled(self, judge, paper):
        """Whether a judge accepts a paper, and none with a part of another kind."""
        self.judges(judge, paper, True)
        for value in spoiled(paper):
            self.judges(judge, value, False)
        for value in KINDS:
            self.judges(judge, value, False)

    def shows(self, text, names):
        """Whether examples, written as the document prints them, come out so."""
        lines = [line for line in text.strip().split("\n") if line]
        names = dict(names)
        shown = 0
        for at, line in enumerate(lines):
            if not line.startswith(">>> "):
                continue
            code = line[4:]
            wanted = lines[at + 1] if at + 1 < len(lines) else ">>> "
            if wanted.startswith(">>> "):
                exec(code, names)
            elif wanted.startswith("raises "):
                self.refuses(vars(errors)[wanted[7:].split("(")[0]], lambda code=code: eval(code, names))
            else:
                self.assertEqual(repr(eval(code, names)), wanted, code)
                shown += 1
        self.assertGreater(shown, 0)
