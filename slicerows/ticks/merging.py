"""Inputs that lead all signals from the left to one."""

from slicerows.base.bits import MAX_BITS
from slicerows.base.walks import explored, steps_to
from slicerows.ticks.opens import led_set

MAX_TRIED = 2000


class Merges:
    """For each pair of signals, the less one first, a least input that leads both to one, if there is any."""

    def __init__(self, row):
        self.table = row.on
        self.every = [(one, other) for one in range(row.lefts) for other in range(one + 1, row.lefts)]
        self.closing = {}
        # For each pair the pairs that columns lead there: ways are gone back from the pairs that one column merges.
        self.sources = {pair: [] for pair in self.every}
        for pair in self.every:
            for place in range(len(self.table[0])):
                led = led_set(self.table, pair, place)
                if len(led) == 1:
                    self.closing.setdefault(pair, place)
                else:
                    self.sources[led].append((place, pair))
        self.nearest = explored(list(self.closing), lambda pair: self.sources[pair])

    def never(self):
        """The pairs that no input leads to one, ascending."""
        return tuple([pair for pair in self.every if pair not in self.nearest])

    def places(self, pair):
        """The places of the columns of a least input that leads a pair to one."""
        # The steps of the way to the pair stand in the opposite order.
        first = steps_to(self.nearest, pair)[::-1]
        for place in first:
            pair = led_set(self.table, pair, place)
        return first + [self.closing[pair]]

    def merging_places(self):
        """The places of the columns of an input that leads all signals to one, pair by pair."""
        signals = tuple(range(len(self.table)))
        found = []
        while len(signals) > 1:
            near = [(self.nearest[(one, other)][0], one, other) for one in signals for other in signals if one < other]
            for place in self.places(min(near)[1:]):
                found.append(place)
                signals = led_set(self.table, signals, place)
        return found


def sources_of(table, signals, place):
    """The ascending tuple of the signals that a column, by its place, leads into a set."""
    held = {signal: True for signal in signals}
    return tuple([signal for signal, line in enumerate(table) if line[place] in held])


def larger_source(table, signals):
    """The places of a least input that leads a larger set into a set, and this larger set, or None.

    It is looked for among sets of one size, and given up if there are too many of them.
    """
    ways = {signals: (0, None, None)}
    queue = [signals]
    at = 0
    while at < len(queue) <= MAX_TRIED:
        state = queue[at]
        at += 1
        for place in range(len(table[0])):
            found = sources_of(table, state, place)
            if len(found) > len(signals):
                return [place] + steps_to(ways, state)[::-1], found
            if len(found) == len(signals) and found not in ways:
                ways[found] = (ways[state][0] + 1, state, place)
                queue.append(found)
    return None


def growing_places(table, signal):
    """The places of the columns of an input that leads all signals to this one, or None if none is found."""
    signals = (signal,)
    places = []
    while len(signals) < len(table):
        step = larger_source(table, signals)
        if step is None:
            return None
        places = step[0] + places
        signals = step[1]
    return places


def reset_places(merges):
    """The places of the columns of an input that leads all signals to one, where each pair can be merged."""
    places = merges.merging_places()
    # Going pair by pair can take too long for a word where growing back from one signal does not.
    for signal in range(len(merges.table)):
        if len(places) <= MAX_BITS:
            break
        other = growing_places(merges.table, signal)
        if other is not None and len(other) < len(places):
            places = other
    return places
