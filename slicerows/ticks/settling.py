"""How many ticks it takes until the signals from the left have settled."""

from math import gcd

from slicerows.base.bits import MAX_BITS, columns_in, is_index_set, is_input, is_whole, need_number, need_words
from slicerows.base.heights import climbed
from slicerows.rows.rows import input_at, need_row
from slicerows.ticks.opens import Opens, led_set, need_delays


def need_delayed(row, delays):
    """Raise unless two values are a row and delays for it."""
    need_row(row)
    need_delays(row, delays)


def settled_at(row, delays, words):
    """The times at all boundaries of an input."""
    need_delayed(row, delays)
    need_words(row.inputs, words)
    every = tuple(range(row.lefts))
    times = [0]
    ticks = [0]
    start = 0
    # For each set to which ends of the beginning lead all signals the index at which the shortest such end begins.
    begins = {every: 0}
    for at, column in enumerate(columns_in(words)):
        place = int(column, 2)
        ticks.append(ticks[-1] + delays[place])
        led = [(led_set(row.on, signals, place), begin) for signals, begin in begins.items()]
        # Sets of later begins have all signals of those of earlier ones, so equal ones stand side by side.
        start = max([begin for signals, begin in led if len(signals) == 1] + [start])
        begins = {signals: begin for signals, begin in led if len(signals) > 1}
        begins[every] = at + 1
        times.append(ticks[-1] - ticks[start] if len(every) > 1 else 0)
    return tuple(times)


def best_steps(steps, delays):
    """For each open set the triples of a place, an open set and a delay; of those to one set the longest alone."""
    found = []
    for line in steps:
        best = {}
        for place, led in line:
            if led not in best or delays[best[led]] < delays[place]:
                best[led] = place
        found.append([(best[led], led, delays[best[led]]) for led in best])
    return found


class Growth:
    """The open sets of a row, a ring of columns with the greatest mean delay that leads one to itself, and heights."""

    def __init__(self, row, delays):
        need_delayed(row, delays)
        self.delays = delays
        self.opens = Opens(row)
        self.ring = None
        self.total = 0
        self.length = 1
        self.heights, rings = self.climb()
        while rings:
            # Each such ring has a greater mean delay than the one ahead.
            self.take(rings)
            self.heights, rings = self.climb()

    def climb(self):
        """The heights of the open sets for the mean delay that is known, or rings with greater ones."""
        return climbed([[(place, led, self.length * self.delays[place] - self.total) for place, led in line]
                        for line in self.opens.edges])

    def take(self, rings):
        """Take the ring with the greatest mean delay."""
        for ring in rings:
            total = sum([self.delays[place] for _, place in ring])
            if total * self.length > self.total * len(ring):
                self.ring, self.total, self.length = ring, total, len(ring)

    def told_heights(self):
        """The heights under the open sets, ascending."""
        heights = dict(zip(self.opens.sets, self.heights))
        return {signals: heights[signals] for signals in sorted(self.opens.sets)}


def next_worths(lines, worths):
    """The greatest sums of one column more from each open set on, and these columns: the place and 1, or 0 for none."""
    marked = [max([((delay + worths[led]) << 4) + place + 1 for place, led, delay in line], default=0)
              for line in lines]
    # A text, because there can be millions of columns.
    return [mark >> 4 for mark in marked], "".join([str(mark & 15) for mark in marked])


def is_steady(lines, grown):
    """Whether sums that grew by these numbers, again and again, go on to do so.

    They do if those that grow do so by one number, and those that do not grow come from one another only.
    """
    if len(set([many for many in grown if many > 0])) > 1:
        return False
    return not any([grown[led] > 0 for many, line in zip(grown, lines) if many == 0 for _, led, _ in line])


def slowest_choices(lines, most, period):
    """For each number of columns up to a greatest one the first columns of those with the greatest sums."""
    worths = [0] * len(lines)
    grown = []
    choices = []
    while len(choices) < most:
        ahead = worths
        for _ in range(period):
            worths, line = next_worths(lines, worths)
            choices.append(line)
        grown = grown[-2:] + [[now - then for now, then in zip(worths, ahead)]]
        # Two periods show that the sums go on so; in the third one none of the others is as great any more.
        if len(grown) == 3 and grown[0] == grown[1] == grown[2] and is_steady(lines, grown[2]):
            return choices + choices[-period:] * (most // period)
    return choices


def slowest_walk(growth, most):
    """The places of at most so many columns, with the greatest sum of delays, that lead all signals to an open set."""
    lines = best_steps(growth.opens.edges, growth.delays)
    places = []
    state = 0
    for line in slowest_choices(lines, most, min(growth.length, most))[:most][::-1]:
        if line[state] != "0":
            places.append(int(line[state]) - 1)
            state = dict(growth.opens.edges[state])[places[-1]]
    return places


def slowest_places(row, delays, width):
    """The places of the columns of a beginning, of at most a width, whose time is the longest one of the width."""
    need_delayed(row, delays)
    need_number(width, 0, MAX_BITS)
    growth = Growth(row, delays)
    if width == 0 or not growth.opens.sets:
        return []
    # A column counts if what is behind it leads to an open set, whatever the column is.
    return [delays.index(max(delays))] + slowest_walk(growth, width - 1)


def longest_time(row, delays, width):
    """The longest time of a width."""
    return sum([delays[place] for place in slowest_places(row, delays, width)])


def slowest_input(row, delays, width):
    """Any input of a width at some boundary of which the longest time is reached."""
    places = slowest_places(row, delays, width)
    return input_at(row, places + [0] * (width - len(places)))


def bounded_time(row, delays):
    """The greatest of the longest times of all widths, or None."""
    growth = Growth(row, delays)
    if growth.ring is not None:
        return None
    return max(growth.heights) + max(delays) if growth.heights else 0


def growth_rate(row, delays):
    """The rate at which the longest time grows, as a pair of integers."""
    growth = Growth(row, delays)
    common = gcd(growth.total, growth.length)
    return (growth.total // common, growth.length // common)


def rate_paper(row, delays):
    """A paper that the longest times are bounded, or that they grow at the rate."""
    growth = Growth(row, delays)
    if growth.ring is None:
        return ("bounded", growth.told_heights())
    words = input_at(row, [place for _, place in growth.ring])
    return ("grows", growth.opens.sets[growth.ring[0][0]], words, growth.told_heights())


def are_heights(row, opens, value):
    """Whether a value is a dict from just the open sets to integers."""
    if not isinstance(value, dict) or len(value) != len(opens.sets):
        return False
    if not all([is_index_set(signals, row.lefts) and is_whole(value[signals]) for signals in value]):
        return False
    return all([signals in value for signals in opens.sets])


def are_kept(opens, delays, heights, total, width):
    """Whether heights allow no greater mean delay than a total for a width, on any ring of open sets."""
    for signals, line in zip(opens.sets, opens.edges):
        for place, led in line:
            if heights[opens.sets[led]] < heights[signals] + width * delays[place] - total:
                return False
    return True


def all_led(row, signals, words):
    """The set of signals to which an input leads a set."""
    return tuple(sorted(set([row.led(signal, words) for signal in signals])))


def is_rate_paper(row, delays, value):
    """Whether a value is a paper that the longest times are bounded, or that they grow at the rate."""
    need_delayed(row, delays)
    opens = Opens(row)
    if not isinstance(value, tuple):
        return False
    if len(value) == 2 and value[0] == "bounded":
        return are_heights(row, opens, value[1]) and are_kept(opens, delays, value[1], 0, 1)
    if len(value) != 4 or value[0] != "grows":
        return False
    _, signals, words, heights = value
    if not is_index_set(signals, row.lefts) or signals not in opens.sets:
        return False
    if not is_input(row.inputs, words) or words[0] == "" or all_led(row, signals, words) != signals:
        return False
    total = sum([delays[int(column, 2)] for column in columns_in(words)])
    return are_heights(row, opens, heights) and are_kept(opens, delays, heights, total, len(words[0]))
