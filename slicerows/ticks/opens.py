"""Open sets: sets of two or more signals from the left to which inputs lead the set of all signals."""

from slicerows.base.bits import is_within
from slicerows.base.walks import explored, numbers_of
from slicerows.errors import InvalidOperation

MAX_OPEN = 2000
MAX_DELAY = 9


def need_delays(row, delays):
    """Raise unless a value tells a delay for each column of a row."""
    if not isinstance(delays, tuple) or len(delays) != len(row.on[0]):
        raise InvalidOperation("not a delay for each column")
    if not all([is_within(delay, 1, MAX_DELAY) for delay in delays]):
        raise InvalidOperation("not delays")


def led_set(on, signals, place):
    """The ascending tuple of the signals to which a column, by its place, leads those of a set."""
    return tuple(sorted(set([on[signal][place] for signal in signals])))


class Opens:
    """The open sets of a row, in the order of the first ways to them."""

    def __init__(self, row):
        self.table = row.on
        self.known = {}
        starts = [tuple(range(row.lefts))] if row.lefts > 1 else []
        self.first_ways = explored(starts, lambda signals: self.follow(signals), MAX_OPEN)
        self.sets = list(self.first_ways)
        numbers = numbers_of(self.first_ways)
        # For each open set the pairs of the place of a column and of the number of the open set to which it leads.
        self.edges = [[(place, numbers[led]) for place, led in self.follow(signals)] for signals in self.sets]

    def follow(self, signals):
        """The pairs of the place of a column and of the open set to which it leads one; other columns are left out."""
        if signals not in self.known:
            led = [(place, led_set(self.table, signals, place)) for place in range(len(self.table[0]))]
            self.known[signals] = [(place, found) for place, found in led if len(found) > 1]
        return self.known[signals]
