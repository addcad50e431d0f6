"""The errors of the package."""


def kept(value):
    """A value that is equal and shares no list and no dict with the one that is passed."""
    if isinstance(value, tuple):
        return tuple([kept(part) for part in value])
    if isinstance(value, list):
        return [kept(part) for part in value]
    if isinstance(value, dict):
        return {key: kept(value[key]) for key in value}
    return value


class RowError(ValueError):
    """The error from which those of wrong values derive."""


class InvalidName(RowError):
    """What is passed as a name is none."""


class InvalidWord(RowError):
    """What is passed as a word, or as a column, is none."""


class InvalidInput(RowError):
    """What is passed as an input is none with the lines that are wanted."""


class InvalidRow(RowError):
    """What is passed as a row, or as its tables, is none."""


class InvalidCondition(RowError):
    """What is passed as a condition is none."""


class InvalidProgram(RowError):
    """What is passed as a program, or as its steps, is none."""


class InvalidFault(RowError):
    """What is passed as a fault is none of the row."""


class InvalidOperation(RowError):
    """The arguments do not fit one another, or have no result."""


class ParseError(RowError):
    """A text has not the form that is told; the index is that of the line."""

    def __init__(self, index):
        super().__init__(f"line {index}")
        self.index = kept(index)


class InvalidNumber(IndexError):
    """What is passed as a number, a width, a signal or an index is none that is wanted."""

    def __init__(self, value):
        super().__init__(repr(value))
        self.value = kept(value)

    def __str__(self):
        return repr(self.value)


class UnknownName(KeyError):
    """Nothing is kept under the name."""

    def __init__(self, name):
        super().__init__(repr(name))
        self.name = kept(name)

    def __str__(self):
        return repr(self.name)


class TooMany(OverflowError):
    """More would come than the limit allows."""

    def __init__(self, limit):
        super().__init__(f"more than {limit}")
        self.limit = kept(limit)


class NothingToUndo(LookupError):
    """There are fewer calls to undo, or to do again."""

    def __init__(self, many):
        super().__init__(f"fewer than {many}")
        self.many = kept(many)


class Broken(ArithmeticError):
    """The promise with the label would not hold."""

    def __init__(self, label):
        super().__init__(f"promise {label}")
        self.label = kept(label)


class SameOutput(RuntimeError):
    """Two different inputs have one output."""

    def __init__(self, one, other):
        super().__init__(f"one output for {one} and {other}")
        self.one = kept(one)
        self.other = kept(other)
