"""Times until signals have settled: 0.1, 0.2, 0.4 to 0.6, 0.18, 0.20, 16.1, 16.2 and stage 16."""

import copy
import itertools
import math
import random
from fractions import Fraction

from slicerows.base.bits import is_input
from slicerows.errors import InvalidInput, InvalidNumber, InvalidOperation, InvalidRow, TooMany
from slicerows.rows.joined import behind
from slicerows.rows.ready import copied, filled, greater, last, later, lowest, negated, times
from slicerows.rows.rows import Row, row_with
from slicerows.ticks.settling import bounded_time, growth_rate, is_rate_paper, longest_time, rate_paper, settled_at
from slicerows.ticks.settling import slowest_input
from tests.helpers import ADD, AGAIN, HALF, KINDS, ODD, Checks, all_words, cell_columns, doubled, not_inputs, not_numbers
from tests.helpers import not_rows, place_of, same, some_rows, spoiled, wide_row

BACKWARD = later("0")
ONES = {1: (1, 1), 2: (1, 1, 1, 1), 3: (1,) * 8}
READY = [ADD, AGAIN, BACKWARD, negated(), times(3), times(7), greater(), lowest(), ~HALF, ODD, ~filled(), doubled(ADD)]


def random_delays(source, row):
    return tuple([source.randint(1, 9) for _ in row.on[0]])


def not_delays(row):
    """Values that are no delays of a row."""
    right = ONES[row.inputs]
    return [value for value in KINDS if value != right] + [
        right[1:], right + (1,), list(right), right[1:] + (0,), right[1:] + (10,), right[1:] + (True,),
        right[1:] + (None,), right[1:] + ("1",), right[1:] + (-1,), right[1:] + (10 ** 200,), right[1:] + ((1,),), "11"]


def cases(seed, many, most=4):
    """Rows with delays."""
    source = random.Random(seed)
    rows = some_rows(seed, many, most) + some_rows(seed + 1, many // 3, 3, 2, 1)
    return [(row, random_delays(source, row)) for row in rows]


def simulated(row, delays, words):
    """The times at all boundaries, by going from tick to tick: all that can stand at a boundary at each time."""
    told = [place_of(column) for column in cell_columns(words)]
    ends = sum([delays[place] for place in told])
    # What is possible at the boundary at hand, for each tick from 0 on.
    possible = [{0}] * (ends + 1)
    found = [0]
    for place in told:
        later_on = []
        for tick in range(ends + 1):
            before = tick - delays[place]
            later_on.append({row.on[p][place] for p in possible[before]} if before >= 0 else set(range(row.lefts)))
        possible = later_on
        found.append(min([tick for tick in range(ends + 1) if len(possible[tick]) == 1]))
    return tuple(found)


def open_graph(row, limit=10 ** 9):
    """For each open set the sets to which columns lead it, None for those that are not open."""
    graph = {}
    queue = [tuple(range(row.lefts))] if row.lefts > 1 else []
    for signals in queue:
        if signals in graph or len(graph) > limit:
            continue
        graph[signals] = [tuple(sorted({row.on[p][place] for p in signals})) for place in range(len(row.on[0]))]
        graph[signals] = [led if len(led) > 1 else None for led in graph[signals]]
        queue.extend([led for led in graph[signals] if led is not None])
    return graph


def greatest_mean(row, delays):
    """The greatest mean of the delays on a ring of open sets, 0 if there is none, by Karp's sums of all lengths."""
    graph = open_graph(row)
    many = len(graph)
    best = Fraction(0)
    # Any start is as good as all, because all open sets come from the first one.
    sums = [{next(iter(graph)): 0}] if graph else []
    for _ in range(many):
        ahead = {}
        for signals, total in sums[-1].items():
            for delay, led in zip(delays, graph[signals]):
                if led is not None:
                    ahead[led] = max(ahead.get(led, 0), total + delay)
        sums.append(ahead)
    for signals in (sums[-1] if sums else {}):
        best = max(best, min([Fraction(sums[many][signals] - sums[k][signals], many - k)
                              for k in range(many) if signals in sums[k]]))
    return best


def is_right(row, delays, value):
    """Whether a value is a paper, straight from stage 16."""
    graph = open_graph(row)
    if type(value) is not tuple or not value or not isinstance(value[0], str):
        return False
    total, width = 0, 1
    if value[0] == "grows" and len(value) == 4:
        _, signals, words, heights = value
        if not any([same(signals, told) for told in graph]) or not is_input(row.inputs, words) or words[0] == "":
            return False
        led = set(signals)
        for column in cell_columns(words):
            led = {row.on[p][place_of(column)] for p in led}
            total += delays[place_of(column)]
        width = len(words[0])
        if led != set(signals):
            return False
    elif value[0] == "bounded" and len(value) == 2:
        heights = value[1]
    else:
        return False
    if type(heights) is not dict or sorted(map(repr, heights)) != sorted(map(repr, graph)):
        return False
    if not all([type(height) is int and abs(height) < 10 ** 200 for height in heights.values()]):
        return False
    return all([heights[led] >= heights[signals] + width * delay - total
                for signals, line in graph.items() for delay, led in zip(delays, line) if led is not None])


def turning(sizes, ahead):
    """A row of rings: a column turns one ring, the last one turns all to their heads. So many signals go ahead.

    So there is an open set for each place of all rings at once, one for each signal ahead, and one more.
    """
    on = [(at + 1,) * 4 for at in range(ahead)]
    for at, size in enumerate(sizes):
        head = ahead + sum(sizes[:at])
        for place in range(size):
            line = [head + place] * 3 + [head]
            line[at] = head + (place + 1) % size
            on.append(tuple(line))
    return row_with(tuple(on), ((0,) * 4,), ((("0",) * 4,),) * len(on))


ENOUGH, MORE = turning((37, 9, 6), 1), turning((25, 16, 5), 0)


class Times(Checks):
    def test_against_ticks(self):
        for row, delays in cases(301, 40):
            for width in range(5 if row.inputs == 1 else 4):
                for words in all_words(row.inputs, width):
                    self.holds(settled_at(row, delays, words), simulated(row, delays, words))

    def test_ready_rows(self):
        source = random.Random(303)
        for row in READY:
            for _ in range(12):
                delays = random_delays(source, row)
                words = tuple(["".join([source.choice("01") for _ in range(9)]) for _ in range(row.inputs)])
                self.holds(settled_at(row, delays, words), simulated(row, delays, words))

    def test_boundary_none(self):
        for row in READY:
            self.holds(settled_at(row, (9,) * len(row.on[0]), ("",) * row.inputs), (0,))

    def test_one_signal_from_the_left(self):
        for row in (HALF, copied(1), last(), wide_row(304, 1, 60, 1, 1)):
            self.holds(settled_at(row, (3, 4), ("0110",)), (0,) * 5)
            self.holds([longest_time(row, (9, 9), width) for width in (0, 1, 4000)], [0, 0, 0])
            self.holds([bounded_time(row, (9, 9)), growth_rate(row, (9, 9)), rate_paper(row, (9, 9))],
                       [0, (0, 1), ("bounded", {})])
            self.holds(len(slowest_input(row, (1, 2), 7)[0]), 7)

    def test_rows_from_both_sides(self):
        row = ODD
        self.holds([row.lefts, row.rights, settled_at(row, (2, 3), ("011",)), settled_at(~row, (2, 3), ("011",))],
                   [2, 2, (0, 2, 5, 8), (0, 2, 5, 8)])

    def test_wide(self):
        self.holds(settled_at(BACKWARD, (1, 3), ("01" * 2000,))[-3:], (3, 1, 3))
        self.holds(settled_at(ADD, (1, 2, 2, 1), ("01" * 2000, "10" * 2000))[-1], 8000)
        row = wide_row(305, 60, 1, 1, 1)
        words = ("0110" * 1000,)
        found = settled_at(row, (4, 7), words)
        self.holds([len(found), found[:13]], [4001, simulated(row, (4, 7), ("0110" * 3,))])
        ring = row_with(tuple([((at + 1) % 60, max(at - 1, 0)) for at in range(60)]), ((0, 0),), ((("0", "0"),),) * 60)
        self.holds(settled_at(ring, (1, 2), ("1" * 4000,))[-1], 118)

    def test_errors(self):
        for row, words in ((ADD, ("01", "00")), (BACKWARD, ("01",)), (copied(3), ("", "", ""))):
            self.checks_in_order(settled_at, (row, InvalidRow, not_rows()), (ONES[row.inputs], InvalidOperation, not_delays(row)),
                                 (words, InvalidInput, not_inputs(row.inputs)))

    def test_many_open_sets(self):
        self.holds(settled_at(MORE, (1, 2, 3, 4), ("01", "10")), (0, 2, 5))


class Longest(Checks):
    def test_against_all_inputs(self):
        for row, delays in cases(306, 40):
            for width in range(5 if row.inputs == 1 else 4):
                wanted = max([max(settled_at(row, delays, words)) for words in all_words(row.inputs, width)])
                self.holds(longest_time(row, delays, width), wanted)
                words = slowest_input(row, delays, width)
                self.assertTrue(is_input(row.inputs, words) and len(words[0]) == width)
                self.holds(max(settled_at(row, delays, words)), wanted)

    def test_against_sums_of_all_lengths(self):
        for row, delays in cases(308, 60, 5):
            graph = open_graph(row)
            best = {next(iter(graph)): 0} if graph else {}
            top = 0
            for width in range(1, 90):
                wanted = max(delays) + top if graph else 0
                if width in (1, 2, 3, 5, 8, 20, 40, 65, 89):
                    self.holds(longest_time(row, delays, width), wanted)
                    self.holds(max(settled_at(row, delays, slowest_input(row, delays, width))), wanted)
                ahead = {}
                for signals, total in best.items():
                    for delay, led in zip(delays, graph[signals]):
                        if led is not None:
                            ahead[led] = max(ahead.get(led, 0), total + delay)
                best = ahead
                top = max([top] + list(best.values()))

    def test_ready_rows(self):
        self.holds([longest_time(ADD, (1, 2, 2, 1), width) for width in (0, 1, 2, 7, 4000)], [0, 2, 4, 14, 8000])
        self.holds([longest_time(ADD, (5, 2, 1, 1), width) for width in (1, 4, 4000)], [5, 11, 8003])
        self.holds([longest_time(BACKWARD, (1, 3), width) for width in (0, 1, 2, 4000)], [0, 3, 3, 3])
        # Needless signals count, too: twice as many of them never come together.
        self.holds([longest_time(doubled(row), (9, 1), 40) for row in (times(7), BACKWARD)], [360, 360])

    def test_width_4000(self):
        for row, delays in ((ADD, (9, 1, 1, 9)), (behind(times(3), times(5)), (2, 7)), (times(7), (4, 9)), (ENOUGH, (1, 2, 3, 4)),
                            (ENOUGH, (9, 9, 9, 1)), (greater(), (1, 5, 7, 3)), (ODD, (1, 2))):
            words = slowest_input(row, delays, 4000)
            self.holds([len(words[0]), max(settled_at(row, delays, words))], [4000, longest_time(row, delays, 4000)])
        self.holds(longest_time(ENOUGH, (1, 2, 3, 9), 4000), 36000)

    def test_sums_that_are_left_behind_late(self):
        # Columns 00 lead along a chain, and at its end 01 goes on; or 10 goes on from the start, which is less at first.
        for long, first, second in ((4, 4, 5), (6, 7, 8), (3, 1, 2), (5, 5, 6), (1, 8, 8)):
            sink, end, other = 0, long + 1, long + 2
            on = [(sink,) * 4]
            on += [(at + 1 if at < end else sink, end if at == end else sink, sink, sink) for at in range(1, end + 1)]
            on.append((sink, sink, other, sink))
            row = row_with(tuple(on), ((0,) * 4,), ((("0",) * 4,),) * len(on))
            delays = (9, first, second, 1)
            self.holds(growth_rate(row, delays), (second, 1))
            for width in list(range(1, 45)) + [399, 4000]:
                most = width - 1
                wanted = 9 + max(9 * min(most, long) + first * max(most - long, 0), second * most)
                words = slowest_input(row, delays, width)
                self.holds([longest_time(row, delays, width), max(settled_at(row, delays, words))], [wanted, wanted])

    def test_sums_that_come_to_an_end(self):
        # A chain of the greatest delay is soon overtaken by rings of two and three columns.
        for many, ring, delays in ((6, 2, (9, 1, 4, 1)), (9, 3, (9, 2, 5, 1)), (2, 3, (9, 8, 8, 1)), (8, 2, (9, 8, 1, 1))):
            head = many + 1
            on = [(0,) * 4] + [(at + 1 if at < many else 0, 0, 0, 0) for at in range(1, many + 1)]
            on += [(0, head + (at + 1) % ring, 0, 0) if at else (0, 0, head + 1, 0) for at in range(ring)]
            row = row_with(tuple(on), ((0,) * 4,), ((("0",) * 4,),) * len(on))
            told = [delays[2]] + [delays[1]] * (ring - 1)
            self.holds(Fraction(*growth_rate(row, delays)), Fraction(sum(told), ring))
            for width in list(range(1, 40)) + [3999, 4000]:
                most = width - 1
                round_about = max([sum([told[(start + at) % ring] for at in range(most % ring)]) for start in range(ring)])
                wanted = 9 + max(9 * min(most, many - 1), sum(told) * (most // ring) + round_about)
                words = slowest_input(row, delays, width)
                self.holds([longest_time(row, delays, width), max(settled_at(row, delays, words))], [wanted, wanted])

    def test_growth(self):
        # From some width on, it grows by a fixed number for a fixed number of further cells.
        for row, delays in cases(310, 60, 5) + [(ADD, (1, 7, 2, 1)), (times(7), (1, 4)), (behind(times(3), times(5)), (1, 2))]:
            total, width = growth_rate(row, delays)
            many = width
            for _ in range(6):
                wide = [longest_time(row, delays, 3000 + at * many) for at in range(3)]
                if wide[1] - wide[0] == total * many // width == wide[2] - wide[1]:
                    break
                many += width
            self.holds([wide[1] - wide[0], wide[2] - wide[1]], [total * many // width] * 2)

    def test_neither_bounded_nor_by_the_greatest_delay(self):
        # 0.20: the longest time is bounded, or grows with each cell by the greatest delay.
        self.holds([growth_rate(ADD, (5, 2, 1, 1)), bounded_time(ADD, (5, 2, 1, 1)), longest_time(ADD, (5, 2, 1, 1), 40)],
                   [(2, 1), None, 83])

    def test_many_open_sets(self):
        self.holds([len(open_graph(ENOUGH)), len(open_graph(MORE))], [2000, 2001])
        self.holds([longest_time(ENOUGH, (1, 2, 3, 4), 5), len(slowest_input(ENOUGH, (1, 2, 3, 4), 5)[0]),
                    bounded_time(ENOUGH, (1, 2, 3, 4)), growth_rate(ENOUGH, (1, 2, 3, 4)), rate_paper(ENOUGH, (1,) * 4)[0]],
                   [20, 5, None, (4, 1), "grows"])
        self.assertTrue(is_rate_paper(ENOUGH, (1, 2, 1, 2), rate_paper(ENOUGH, (1, 2, 1, 2))))
        for width in (0, 1, 4000):
            self.refuses(TooMany, longest_time, MORE, (1,) * 4, width)
            self.refuses(TooMany, slowest_input, MORE, (1,) * 4, width)
        for call in (bounded_time, growth_rate, rate_paper):
            with self.assertRaises(TooMany) as caught:
                call(MORE, (1,) * 4)
            self.holds(caught.exception.limit, 2000)
        for value in KINDS[::4] + (("bounded", {}), rate_paper(ENOUGH, (1,) * 4)):
            self.refuses(TooMany, is_rate_paper, MORE, (1,) * 4, value)

    def test_errors(self):
        for row in (ADD, BACKWARD, copied(3)):
            told = ((row, InvalidRow, not_rows()), (ONES[row.inputs], InvalidOperation, not_delays(row)))
            for call in (longest_time, slowest_input):
                self.checks_in_order(call, *told, (3, InvalidNumber, not_numbers(0, 4000)))
            for call in (bounded_time, growth_rate, rate_paper):
                self.checks_in_order(call, *told)
            for value in KINDS[::5]:
                for wrong in not_delays(row):
                    self.refuses(InvalidOperation, is_rate_paper, row, wrong, value)
                for wrong in not_rows():
                    self.refuses(InvalidRow, is_rate_paper, wrong, None, value)
        self.refuses(InvalidOperation, longest_time, MORE, (1,) * 3, 5)
        self.refuses((InvalidNumber, 4001), slowest_input, MORE, (1,) * 4, 4001)


class Rates(Checks):
    def test_against_all_rings(self):
        found = {}
        for row, delays in cases(312, 150, 5):
            total, width = growth_rate(row, delays)
            self.holds(Fraction(total, width), greatest_mean(row, delays))
            self.holds([math.gcd(total, width), width >= 1], [1, True])
            found[(total, width)] = True
            bound = bounded_time(row, delays)
            self.assertIs(bound is None, total > 0)
            if bound is not None:
                self.holds(max([longest_time(row, delays, width) for width in range(40)]), bound)
                self.holds(longest_time(row, delays, 4000), bound)
        self.assertTrue((0, 1) in found and len([width for _, width in found if width > 1]) > 5)

    def test_ready_rows(self):
        self.holds([growth_rate(ADD, (1, 2, 2, 1)), growth_rate(ADD, (9, 1, 1, 9)), growth_rate(ODD, (3, 8))],
                   [(2, 1), (1, 1), (8, 1)])
        self.holds([bounded_time(BACKWARD, (1, 3)), bounded_time(~HALF, (2, 2)), bounded_time(times(3), (1, 1))],
                   [3, 2, None])
        self.holds(growth_rate(times(3), (1, 2)), (3, 2))

    def test_longer_bounds(self):
        # Three bits back: the time is that of the last three columns.
        row = Row(tuple([(2 * p % 8, (2 * p + 1) % 8) for p in range(8)]), ((0, 0),), ((("0", "0"),),) * 8)
        self.holds([bounded_time(row, (1, 9)), growth_rate(row, (1, 9)), longest_time(row, (1, 9), 2)], [27, (0, 1), 18])
        self.holds(len(rate_paper(row, (1, 9))[1]), 7)

    def test_mirrored_rows(self):
        self.holds([growth_rate(~ADD, ONES[2]), growth_rate(~~ADD, ONES[2]), growth_rate(~HALF, (1, 1))],
                   [(0, 1), (1, 1), (0, 1)])


class Papers(Checks):
    def judge(self, row, delays):
        return lambda value: is_rate_paper(row, delays, value)

    def test_papers(self):
        for row, delays in cases(314, 100) + [(row, (2, 3) * (len(row.on[0]) // 2)) for row in READY]:
            paper = rate_paper(row, delays)
            self.assertTrue(is_right(row, delays, paper))
            self.judges(self.judge(row, delays), paper, True)
            self.holds(list(paper[-1]), sorted(open_graph(row)))
            if paper[0] == "grows":
                told = [delays[place_of(column)] for column in cell_columns(paper[2])]
                self.holds(growth_rate(row, delays), (Fraction(sum(told), len(told)).numerator,
                                                     Fraction(sum(told), len(told)).denominator))
            else:
                self.holds(growth_rate(row, delays), (0, 1))

    def test_papers_of_others(self):
        delays = (1, 2, 2, 1)
        judge = self.judge(ADD, delays)
        for words, wanted in ((("0", "1"), True), (("1", "0"), True), (("01", "10"), True), (("0" * 4000, "1" * 4000), True),
                              (("00", "01"), False), (("0" * 4001, "1" * 4001), False), (("", ""), False), (("00", "11"), True),
                              (("0", "0"), False), (("0",), False), (("01", "1"), False), ("01", False), (["0", "1"], False)):
            self.judges(judge, ("grows", (0, 1), words, {(0, 1): 0}), wanted)
        for height in (-5, 10 ** 200 - 1, 1 - 10 ** 200):
            self.judges(judge, ("grows", (0, 1), ("0", "1"), {(0, 1): height}), True)
        for height in (10 ** 200, -10 ** 200, True, False, None, "0", (0,), 10 ** 299):
            self.judges(judge, ("grows", (0, 1), ("0", "1"), {(0, 1): height}), False)
        for signals in ((0,), (), (1, 0), (0, 0), (0, True), (False, 1), [0, 1], (0, 2), (0, 1, 2), None, 0):
            self.judges(judge, ("grows", signals, ("0", "1"), {(0, 1): 0}), False)
        for heights in ({}, {(0, True): 0}, {(False, 1): 0}, {(0, 1): 0, (1, 2): 0}, {(0, 1): 0, (0,): 0}, {(1, 0): 0}, [], None,
                        (((0, 1), 0),), {(0, 1): 0, None: 0}):
            self.judges(judge, ("grows", (0, 1), ("0", "1"), heights), False)
        self.judges(judge, ("bounded", {(0, 1): 0}), False)

    def test_a_lower_mean_is_no_rate(self):
        self.judges(self.judge(ODD, (1, 2)), ("grows", (0, 1), ("1",), {(0, 1): 3}), True)
        self.judges(self.judge(ODD, (1, 2)), ("grows", (0, 1), ("0",), {(0, 1): 3}), False)
        self.judges(self.judge(ODD, (1, 2)), ("grows", (0, 1), ("01",), {(0, 1): 3}), False)

    def test_heights_of_others(self):
        source = random.Random(316)
        accepted = {"bounded": 0, "grows": 0}
        for row, delays in cases(317, 90):
            paper = rate_paper(row, delays)
            if not paper[-1]:
                continue
            for _ in range(6):
                scale = source.choice((1, 2, 10 ** 150))
                heights = {signals: height * scale + source.choice((0, 0, 1)) + 10 ** 20
                           for signals, height in paper[-1].items()}
                value = paper[:-1] + (heights,)
                wanted = is_right(row, delays, value)
                accepted[paper[0]] += wanted
                self.judges(self.judge(row, delays), value, wanted)
                shuffled = list(heights.items())
                source.shuffle(shuffled)
                self.judges(self.judge(row, delays), paper[:-1] + (dict(shuffled),), wanted)
        self.assertGreater(min(accepted.values()), 20)

    def test_longer_rings(self):
        row = times(3)
        paper = rate_paper(row, (1, 2))
        twice = (paper[2][0] * 2,)
        heights = {signals: 2 * height for signals, height in paper[3].items()}
        self.holds(growth_rate(row, (1, 2)), (3, 2))
        self.judges(self.judge(row, (1, 2)), ("grows", paper[1], twice, heights), True)
        self.judges(self.judge(row, (1, 2)), ("grows", paper[1], twice, {signals: 0 for signals in heights}), False)
        self.judges(self.judge(row, (1, 2)), ("grows", (0, 1, 2), paper[2], paper[3]),
                    is_right(row, (1, 2), ("grows", (0, 1, 2), paper[2], paper[3])))

    def test_spoiled_papers(self):
        source = random.Random(318)
        for row, delays in [(ADD, (1, 2, 2, 1)), (BACKWARD, (1, 3)), (times(3), (1, 2)), (copied(1), (1, 1))] + cases(319, 9, 3)[:8]:
            paper = rate_paper(row, delays)
            values = list(spoiled(paper))
            for value in source.sample(values, min(len(values), 250)):
                self.judges(self.judge(row, delays), value, is_right(row, delays, value))
            for value in KINDS + ((paper[0],), paper + (None,), (paper[0].upper(),) + paper[1:], list(paper)):
                self.judges(self.judge(row, delays), value, False)
        self.judges(self.judge(copied(1), (1, 1)), ("bounded", {}), True)

    def test_a_key_left_out_and_one_too_many(self):
        row = Row(tuple([(2 * p % 8, (2 * p + 1) % 8) for p in range(8)]), ((0, 0),), ((("0", "0"),),) * 8)
        heights = rate_paper(row, (1, 2))[1]
        lowest = min(heights.values())
        for signals in heights:
            if heights[signals] > lowest:
                self.judges(self.judge(row, (1, 2)), ("bounded", {**heights, signals: heights[signals] - 1}), False)
            self.judges(self.judge(row, (1, 2)), ("bounded", {told: heights[told] for told in heights if told != signals}), False)
        for signals in ((), (0,), (0, 1), (0, 7), (0, 1, 2, 3, 4, 5, 6, 8), "01", 0, None):
            more = {**heights, signals: 10 ** 9}
            self.judges(self.judge(row, (1, 2)), ("bounded", more), signals in heights)
        self.judges(self.judge(row, (1, 2)), ("bounded", dict(list(heights.items())[::-1])), True)

    def test_nothing_is_shared(self):
        one, other = rate_paper(ADD, ONES[2]), rate_paper(ADD, ONES[2])
        self.holds(one, other)
        one[3][(0, 1)] = 99
        self.holds(rate_paper(ADD, ONES[2]), other)
        value = copy.deepcopy(other)
        self.assertTrue(is_rate_paper(ADD, ONES[2], value))
        self.holds(value, other)

    def test_equal_calls(self):
        for row, delays in itertools.islice(cases(320, 20), 12):
            for call in (bounded_time, growth_rate, rate_paper):
                self.holds(call(row, delays), call(row, delays))
            self.holds(slowest_input(row, delays, 9), slowest_input(row, delays, 9))
