"""Rows of equal cells, told by the tables of their cell."""

from slicerows.base.bits import MAX_LINES, columns, columns_in, is_column, is_within, need_column
from slicerows.base.bits import need_number, need_words, words_in
from slicerows.base.walks import steps_to, walked
from slicerows.errors import InvalidRow

MAX_SIGNALS = 60
MAX_PASSED = 8


def entries(value):
    """How many entries a tuple has, 0 if a value is no tuple."""
    return len(value) if isinstance(value, tuple) else 0


def is_handed(table, many):
    """Whether a tuple tells for each of its signals the signals that are handed on for so many columns."""
    if any([entries(line) != many for line in table]):
        return False
    return all([is_within(signal, 0, len(table) - 1) for line in table for signal in line])


def is_made(table, lefts, rights, many):
    """Whether a value tells the output columns for so many signals of each side and so many columns."""
    if entries(table) != lefts or any([entries(line) != rights for line in table]):
        return False
    cells = [cell for line in table for cell in line]
    if any([entries(cell) != many for cell in cells]):
        return False
    made = [column for cell in cells for column in cell]
    return any([all([is_column(lines, column) for column in made]) for lines in range(1, MAX_LINES + 1)])


def are_tables(on, back, out):
    """Whether three values are the tables of a row that can be passed."""
    lefts, rights = entries(on), entries(back)
    if not (1 <= lefts <= MAX_PASSED and 1 <= rights <= MAX_PASSED):
        return False
    many = entries(on[0])
    if many not in (2, 4, 8):
        return False
    return is_handed(on, many) and is_handed(back, many) and is_made(out, lefts, rights, many)


def passed(table, signal, places):
    """The signals at all boundaries, from the one on that is told, for the places of columns in a table."""
    signals = [signal]
    for place in places:
        signal = table[signal][place]
        signals.append(signal)
    return signals


def replaced(line, at, entry):
    """A tuple with another entry at an index."""
    return line[:at] + (entry,) + line[at + 1:]


class Tables:
    """The tables of a row that a call returns: they are right, and can have up to sixty signals of a side.

    Only callers are held to eight signals. What the package makes itself goes to Row as such an object.
    """

    def __init__(self, on, back, out):
        self.told = (on, back, out)


class Row:
    """A row of equal cells. It never changes."""

    def __init__(self, on, back, out):
        if isinstance(on, Tables):
            on, back, out = on.told
        elif not are_tables(on, back, out):
            raise InvalidRow("not the three tables of a row")
        self._on = on
        self._back = back
        self._out = out
        # Two, four or eight entries stand for the columns of one, two or three bits.
        self._inputs = len(on[0]).bit_length() - 1
        self._places = {column: place for place, column in enumerate(columns(self._inputs))}

    @property
    def on(self):
        """For each signal from the left and each column the signal that is handed on."""
        return self._on

    @property
    def back(self):
        """For each signal from the right and each column the signal that is handed on."""
        return self._back

    @property
    def out(self):
        """For each signal from the left, each one from the right and each column the output column."""
        return self._out

    @property
    def inputs(self):
        """The number of input lines."""
        return self._inputs

    @property
    def outputs(self):
        """The number of output lines."""
        return len(self._out[0][0][0])

    @property
    def lefts(self):
        """The number of signals from the left."""
        return len(self._on)

    @property
    def rights(self):
        """The number of signals from the right."""
        return len(self._back)

    def __call__(self, words):
        return self.made(words)

    def made(self, words):
        """The output for an input."""
        places = self._places_of(words)
        lefts = passed(self._on, 0, places)
        rights = passed(self._back, 0, places[::-1])[::-1]
        made = [self._out[lefts[at]][rights[at + 1]][place] for at, place in enumerate(places)]
        return words_in(self.outputs, made)

    def left_signals(self, words):
        """The signals from the left at all boundaries of an input."""
        return tuple(passed(self._on, 0, self._places_of(words)))

    def right_signals(self, words):
        """The signals from the right at all boundaries of an input."""
        places = self._places_of(words)
        return tuple(passed(self._back, 0, places[::-1])[::-1])

    def led(self, signal, words):
        """The signal from the left to which a beginning leads a signal."""
        need_number(signal, 0, self.lefts - 1)
        return passed(self._on, signal, self._places_of(words))[-1]

    def led_back(self, signal, words):
        """The signal from the right to which an end leads a signal."""
        need_number(signal, 0, self.rights - 1)
        places = self._places_of(words)
        return passed(self._back, signal, places[::-1])[-1]

    def with_on(self, signal, column, other):
        """The row that hands on another signal from the left."""
        need_number(signal, 0, self.lefts - 1)
        need_column(self._inputs, column)
        need_number(other, 0, self.lefts - 1)
        line = replaced(self._on[signal], self._places[column], other)
        return row_with(replaced(self._on, signal, line), self._back, self._out)

    def with_back(self, signal, column, other):
        """The row that hands on another signal from the right."""
        need_number(signal, 0, self.rights - 1)
        need_column(self._inputs, column)
        need_number(other, 0, self.rights - 1)
        line = replaced(self._back[signal], self._places[column], other)
        return row_with(self._on, replaced(self._back, signal, line), self._out)

    def with_out(self, left, right, column, output):
        """The row that makes another output column."""
        need_number(left, 0, self.lefts - 1)
        need_number(right, 0, self.rights - 1)
        need_column(self._inputs, column)
        need_column(self.outputs, output)
        cell = replaced(self._out[left][right], self._places[column], output)
        line = replaced(self._out[left], right, cell)
        return row_with(self._on, self._back, replaced(self._out, left, line))

    def __invert__(self):
        return self.mirrored()

    def mirrored(self):
        """The row for which signals from the left and from the right have changed places."""
        out = tuple([tuple([line[right] for line in self._out]) for right in range(self.rights)])
        return row_with(self._back, self._on, out)

    def __eq__(self, other):
        return (isinstance(other, Row) and self._on == other._on
                and self._back == other._back and self._out == other._out)

    def __str__(self):
        return ", ".join([
            f"row of {self.inputs} lines to {self.outputs}",
            f"{self.lefts} signals from the left",
            f"{self.rights} from the right",
        ])

    def __repr__(self):
        return f"Row({self._on!r}, {self._back!r}, {self._out!r})"

    def _places_of(self, words):
        """The places of the columns of an input in the tables, in order."""
        need_words(self._inputs, words)
        return [self._places[column] for column in columns_in(words)]


def row_with(on, back, out):
    """The row with tables that are right, however many signals they have."""
    return Row(Tables(on, back, out), None, None)


def need_row(value):
    """Raise unless a value is a row."""
    if not isinstance(value, Row):
        raise InvalidRow("not a row")


def ways_of(row):
    """The walk from 0 over the signals from the left of a row."""
    on = row.on
    return walked(0, len(on[0]), lambda signal, place: on[signal][place])


def input_at(row, places):
    """The input of a row whose columns have these places in the tables."""
    told = columns(row.inputs)
    return words_in(row.inputs, [told[place] for place in places])


def reached(row):
    """The reached signals from the left, ascending."""
    need_row(row)
    return tuple(sorted(list(ways_of(row))))


def reached_back(row):
    """The reached signals from the right, ascending."""
    need_row(row)
    return reached(~row)


def way_to(row, signal):
    """The first beginning that leads 0 to a signal from the left, or None."""
    need_row(row)
    need_number(signal, 0, row.lefts - 1)
    ways = ways_of(row)
    return input_at(row, steps_to(ways, signal)) if signal in ways else None


def way_back_to(row, signal):
    """The first end that leads 0 to a signal from the right, or None."""
    need_row(row)
    need_number(signal, 0, row.rights - 1)
    ways = ways_of(~row)
    return input_at(row, steps_to(ways, signal)[::-1]) if signal in ways else None
