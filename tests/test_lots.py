"""Lots of tests: 0.1, 0.2, 0.4 to 0.6, 0.19, 0.20, 19.1 to 19.3 and stage 19."""

import copy
import itertools
import random

from slicerows.base.bits import is_input
from slicerows.errors import InvalidFault, InvalidNumber, InvalidOperation, InvalidRow, TooMany
from slicerows.faults.faults import all_faults, fault_places, faults_found, finding_input, finds
from slicerows.faults.lots import MAX_LOT, are_tests_bounded, complete_lot, is_complete, is_test_paper, lot_limit, missed
from slicerows.faults.lots import test_paper as paper_of_tests
from slicerows.judge.least import least_row
from slicerows.rows.joined import behind, repeated
from slicerows.rows.ready import copied, greater, later, lowest, negated, picked, subtracted, times
from slicerows.rows.rows import Row, row_with
from tests.helpers import ADD, AGAIN, HALF, KINDS, ODD, TOP, Checks, all_words, cell_columns, doubled, not_numbers, not_rows
from tests.helpers import output_words, place_of, same, spoiled, wide_row
from tests.test_faults import CARRY, QUIET, broken, not_faults, small_width, some_leftward

LOST = Row(((0, 2), (0, 2), (2, 2)), ((0, 0),), ((("0", "0"),), (("0", "1"),), (("0", "0"),)))
SLIP = ("on", 0, "0", 1)
READY = [ADD, AGAIN, negated(), subtracted(), times(3), later("1"), greater(), lowest(), copied(1), copied(2), picked(1, (0, 0)),
         QUIET, LOST]
SOME = some_leftward(601, 40) + READY


def crowded(tails):
    """A row of two rings that meet in any way, so that a fault has very many nodes, and one more for each tail."""
    first, second = 37, 9
    on, out = [], []
    for at in range(first):
        on.append(((at + 1) % first, first + second, at, at))
        out.append("0000")
    for at in range(second):
        on.append((first + (at + 1) % second,) + (first + at,) * 3)
        out.append("0011" if at < 4 else "0000")
    for at in range(tails):
        on.append((first + second + min(at + 1, tails - 1),) * 4)
        out.append(("0000", "1100", "1111", "0000")[at])
    return row_with(tuple(on), ((0,) * 4,), tuple([(tuple(made),) for made in out]))


# The first node of this fault leads to just 20000 nodes, itself among them; with one more tail to one more.
CROWD = ("on", 0, "00", 37)


def classes_of(row):
    """For each pair of signals whether ends of as many cells as there are signals tell them apart."""
    told = {}
    for one, other in itertools.product(range(row.lefts), repeat=2):
        seen = {(one, other)}
        queue = [(one, other)]
        apart = False
        for first, second in queue:
            for place in range(len(row.on[0])):
                apart = apart or row.out[first][0][place] != row.out[second][0][place]
                led = (row.on[first][place], row.on[second][place])
                if led not in seen:
                    seen.add(led)
                    queue.append(led)
        told[(one, other)] = not apart
    return told


def steps_of(row, fault, alike, node):
    """The pairs of the place of a column, whether the step counts, and the node, straight from 19.2."""
    kind, signal, column, wrong = fault
    at, others = node
    found = []
    for place in range(len(row.on[0])):
        ahead = row.on[at][place]
        led = {row.on[other][place] for other in others if row.out[other][0][place] == row.out[at][0][place]}
        if any([alike[(ahead, other)] for other in led]):
            continue
        found.append((place, 0, (ahead, tuple(sorted(led)))))
        if at == signal and place == place_of(column):
            found.append((place, 1, (ahead, tuple(sorted(led | ({wrong} if kind == "on" else set()))))))
    return found


def graph_of(row, fault):
    """For each node to which the first one leads its steps."""
    alike = classes_of(row)
    graph = {}
    queue = [(fault[1], ())]
    for node in queue:
        if node not in graph:
            graph[node] = steps_of(row, fault, alike, node)
            queue.extend([led for _, _, led in graph[node]])
    return graph


def can_come(graph, start, end):
    """Whether steps lead a node to another one, none if both are one."""
    queue, seen = [start], {start}
    for node in queue:
        for _, _, led in graph[node]:
            if led not in seen:
                seen.add(led)
                queue.append(led)
    return end in seen


def greatest_place(row, fault):
    """The greatest place at which a fault is found, -1 if there is none, None if there are endlessly many."""
    width = 3 * row.lefts + 2
    places = fault_places(row, fault, width)
    if not places:
        return -1
    return None if places[-1] >= row.lefts else places[-1]


def form_of_tests(row, fault):
    """The form of the paper, by looking at all nodes."""
    place = greatest_place(row, fault)
    if place is not None:
        return "never" if place < 0 else "few"
    graph = graph_of(row, fault)
    turns = any([counts and can_come(graph, led, node) for node in graph for _, counts, led in graph[node]])
    return "often" if turns else "rare"


def is_often(row, fault, head, turn):
    """Whether a head and a round are right, by going through the round again and again."""
    kind, signal, column, wrong = fault
    if not is_input(row.inputs, head) or not is_input(row.inputs, turn) or turn[0] == "":
        return False
    told = cell_columns(turn)
    if row.led(0, head) != signal or told[0] != column or row.led(signal, turn) != signal:
        return False
    if kind == "out":
        return True
    alike = classes_of(row)
    right = row.on[signal][place_of(column)]
    for told_column in told[1:] + told * (row.lefts + 1):
        if alike[(right, wrong)]:
            return False
        place = place_of(told_column)
        if row.out[right][0][place] != row.out[wrong][0][place]:
            return True
        right, wrong = row.on[right][place], row.on[wrong][place]
    return not alike[(right, wrong)]


def are_right_ranks(row, fault, ranks):
    """Whether a value is a dict of ranks, straight from stage 19."""
    if type(ranks) is not dict:
        return False
    for node, rank in ranks.items():
        if type(rank) is not int or abs(rank) >= 10 ** 200 or type(node) is not tuple or len(node) != 2:
            return False
        signal, others = node
        if type(others) is not tuple or not all([type(p) is int and 0 <= p < row.lefts for p in (signal,) + others]):
            return False
        if list(others) != sorted(set(others)):
            return False
    if (fault[1], ()) not in ranks:
        return False
    alike = classes_of(row)
    return all([led in ranks and ranks[led] <= ranks[node] - counts
                for node in ranks for _, counts, led in steps_of(row, fault, alike, node)])


def is_right(row, fault, value):
    """Whether a value is a paper, straight from stage 19."""
    if type(value) is not tuple or not value or not isinstance(value[0], str):
        return False
    place = greatest_place(row, fault)
    if value == ("never",):
        return place == -1
    if value[0] == "few" and len(value) == 2:
        return type(value[1]) is int and place is not None and place >= 0 and value[1] == place
    if value[0] == "often" and len(value) == 3:
        return is_often(row, fault, value[1], value[2])
    return value[0] == "rare" and len(value) == 2 and place is None and are_right_ranks(row, fault, value[1])


def all_found(row, width):
    """The pairs of a fault and a place that some input of a width finds, by looking at all, ascending."""
    found = {}
    for words in all_words(row.inputs, width):
        for fault in all_faults(row):
            for place in range(width):
                if broken(row, fault, words, place) != output_words(row, words):
                    found[(fault, place)] = True
    return sorted(found)


def found_by(row, lot):
    return {both for words in lot for both in faults_found(row, words)}


class Lots(Checks):
    def test_against_all_inputs(self):
        source = random.Random(603)
        seen = {True: 0, False: 0}
        for row in [row for row in SOME if row.lefts < 4]:
            for width in range(min(small_width(row), 3) + 1):
                every = all_words(row.inputs, width)
                wanted = all_found(row, width)
                for many in (0, 1, 2, len(every) // 2, len(every)):
                    lot = tuple(source.sample(every, min(many, len(every))))
                    left = [both for both in wanted if both not in found_by(row, lot)]
                    self.holds(missed(row, width, lot), left[0] if left else None)
                    self.assertIs(is_complete(row, width, lot), not left)
                    seen[not left] += 1
                self.assertIs(is_complete(row, width, tuple(every)), True)
        self.assertGreater(min(seen.values()), 50)

    def test_known_lots(self):
        four = (("0", "0"), ("0", "1"), ("1", "0"), ("1", "1"))
        self.holds([is_complete(ADD, 1, four), missed(ADD, 1, four[1:]), missed(ADD, 1, ())],
                   [True, (("out", 0, "00", "1"), 0), (("out", 0, "00", "1"), 0)])
        self.holds([is_complete(ADD, 1, four + four), is_complete(ADD, 1, four[::-1]), is_complete(ADD, 1, (four[0],) * 4)],
                   [True, True, False])

    def test_width_none(self):
        for row in READY:
            nothing = ("",) * row.inputs
            self.holds([missed(row, 0, ()), missed(row, 0, (nothing, nothing)), complete_lot(row, 0)], [None, None, ()])
        self.holds([missed(LOST, 1, ()), missed(LOST, 2, ())], [(("out", 0, "0", "1"), 0), (("on", 0, "0", 1), 0)])

    def test_width_60(self):
        lot = complete_lot(ADD, MAX_LOT)
        self.holds([is_complete(ADD, 60, lot), len(lot) <= lot_limit(ADD), is_complete(ADD, 60, lot + lot)], [True, True, True])
        short = lot[:-1]
        fault, place = missed(ADD, 60, short)
        self.assertTrue(finds(ADD, fault, lot[-1], place) and not any([finds(ADD, fault, words, place) for words in short]))

    def test_wide_rows(self):
        row = wide_row(604, 60, 1, 2, 1)
        words = ("01" * 30, "10" * 30)
        fault, place = missed(row, 60, (words,))
        self.assertTrue(place in fault_places(row, fault, 60) and not finds(row, fault, words, place))

    def test_errors(self):
        right = (("01", "00"), ("11", "10"))
        lots = [value for value in KINDS if value != ()] + [
            list(right), right + (("0", "0"),), right + (("01",),), right + (("01", "0"),), right + (["01", "00"],), ("01", "00"),
            right + (("0a", "00"),), right + (None,), {right[0]: True}, right + ((),), (("", ""),), right + (("010", "001"),)]
        for call in (is_complete, missed):
            self.checks_in_order(call, (ADD, InvalidRow, not_rows()), (2, InvalidNumber, not_numbers(0, 60)),
                                 (right, InvalidOperation, lots))
            self.refuses(InvalidOperation, call, ADD, 0, (("0", "0"),))
        self.checks_in_order(complete_lot, (ADD, InvalidRow, not_rows()), (2, InvalidNumber, not_numbers(0, 60)))
        for call in (are_tests_bounded, lot_limit):
            self.checks_in_order(call, (ADD, InvalidRow, not_rows()))
        for call in (paper_of_tests, lambda row, fault: is_test_paper(row, fault, None)):
            self.checks_in_order(call, (ADD, InvalidRow, not_rows()), (CARRY, InvalidFault, not_faults(ADD)))

    def test_rows_that_do_not_go_from_the_left(self):
        for row in (HALF, TOP, ODD, ~ADD, wide_row(605, 1, 60, 1, 1), doubled(HALF)):
            for value in KINDS[::6]:
                for call, given in ((is_complete, (value, value)), (missed, (61, value)), (paper_of_tests, (value,)),
                                    (is_test_paper, (value, value)), (complete_lot, (value,))):
                    self.refuses(InvalidOperation, call, row, *given)
            self.refuses(InvalidOperation, are_tests_bounded, row)
            self.refuses(InvalidOperation, lot_limit, row)


class Papers(Checks):
    def judge(self, row, fault):
        return lambda value: is_test_paper(row, fault, value)

    def test_against_all_nodes(self):
        source = random.Random(607)
        forms = {}
        for row in SOME + some_leftward(608, 60, 5) + [doubled_left(row) for row in (LOST, later("0"), times(3))]:
            faults = list(all_faults(row))
            for fault in source.sample(faults, min(len(faults), 12)):
                paper = paper_of_tests(row, fault)
                forms[paper[0]] = forms.get(paper[0], 0) + 1
                self.holds(paper[0], form_of_tests(row, fault))
                self.assertTrue(is_right(row, fault, paper))
                self.judges(self.judge(row, fault), paper, True)
                for other in (("never",), ("few", 0), ("few", 1), ("rare", {(fault[1], ()): 0})):
                    self.judges(self.judge(row, fault), other, is_right(row, fault, other))
        self.assertGreater(min(forms.values()), 3)
        self.holds(sorted(forms), ["few", "never", "often", "rare"])

    def test_known_papers(self):
        self.holds([paper_of_tests(LOST, SLIP)[0], paper_of_tests(ADD, CARRY)[0], paper_of_tests(AGAIN, ("on", 0, "00", 2))],
                   ["rare", "often", ("never",)])
        row = Row(((1, 2), (3, 3), (3, 3), (3, 3)), ((0, 0),), ((("0", "1"),), (("1", "0"),), (("0", "0"),), (("0", "0"),)))
        self.holds([paper_of_tests(row, fault) for fault in (("on", 0, "0", 0), ("out", 2, "1", "1"), ("out", 0, "1", "0"))],
                   [("few", 0), ("few", 1), ("few", 0)])
        self.holds(paper_of_tests(row, ("out", 3, "1", "1"))[0], "often")

    def test_rings(self):
        # A signal that comes once in each round comes endlessly often, however late it comes first.
        for many in (2, 3, 5, 8):
            row = Row(tuple([((at + 1) % many,) * 2 for at in range(many)]), ((0, 0),), ((("0", "1"),),) * many)
            for signal in range(many):
                fault = ("out", signal, "0", "1")
                paper = paper_of_tests(row, fault)
                self.holds([paper[0], len(paper[1][0]), len(paper[2][0])], ["often", signal, many])
                self.judges(self.judge(row, fault), ("few", signal), False)
        self.holds(lot_limit(row), 2 * 8 * 8)

    def test_a_fault_that_is_not_found_where_it_is_not_reached(self):
        for fault in (("out", 3, "0", "0"), ("on", 3, "0", 1), ("on", 3, "1", 1), ("on", 0, "0", 2)):
            self.holds(paper_of_tests(QUIET, fault), ("never",))
            for value, wanted in ((("never",), True), (("few", 0), False), (("rare", {(fault[1], ()): 0}), False), (("few", -1), False),
                                  (("often", ("",), ("0",)), False), (("never", 0), False)):
                self.judges(self.judge(QUIET, fault), value, wanted)

    def test_heads_and_rounds_of_others(self):
        # The wrong signal 0 is told from the right one by the next column, whatever that is.
        fault = ("on", 0, "11", 0)
        for head, turn, wanted in ((("", ""), ("10", "10"), True), (("", ""), ("1010", "1010"), True), (("10", "10"), ("10", "10"), True),
                                   (("0" * 4000, "0" * 4000), ("110", "110"), True), (("", ""), ("1" + "0" * 3999, "1" + "0" * 3999), True),
                                   (("", ""), ("1" + "0" * 4000, "1" + "0" * 4000), False), (("1", "1"), ("10", "10"), False),
                                   (("", ""), ("1", "1"), False), (("", ""), ("", ""), False), (("", ""), ("01", "01"), False),
                                   (("", ""), ("10",), False), (("",), ("10", "10"), False), (("", ""), ("10", "1"), False),
                                   (["", ""], ("10", "10"), False), (("", ""), ["10", "10"], False), ("", "10", False),
                                   (("", ""), ("110", "110"), True), (("", ""), ("1100", "1010"), True), (None, None, False)):
            self.holds(is_right(ADD, fault, ("often", head, turn)), wanted)
            self.judges(self.judge(ADD, fault), ("often", head, turn), wanted)

    def test_rounds_in_which_the_signals_meet(self):
        # The wrong signal comes to the right one in the second round, or in none.
        row = Row(((0, 0, 0, 0), (2, 1, 1, 1), (0, 2, 0, 2)), ((0, 0, 0, 0),),
                  ((("0", "0", "0", "1"),), (("0", "0", "0", "0"),), (("0", "0", "0", "0"),)))
        fault = ("on", 0, "00", 1)
        for turn, wanted in ((("0", "0"), False), (("00", "01"), False), (("01", "00"), False), (("01", "01"), True), (("00", "11"), False),
                             (("001", "001"), True), (("0001", "0001"), False), (("0" * 4000, "1" * 4000), False)):
            self.holds(is_right(row, fault, ("often", ("", ""), turn)), wanted)
            self.judges(self.judge(row, fault), ("often", ("", ""), turn), wanted)
        # Here it stays another one, and is never told as long as the round goes on.
        row = row.with_on(1, "00", 1)
        for turn, wanted in ((("0", "0"), True), (("00", "01"), True), (("00", "00"), True), (("01", "01"), True), (("1", "1"), False)):
            self.holds(is_right(row, fault, ("often", ("", ""), turn)), wanted)
            self.judges(self.judge(row, fault), ("often", ("", ""), turn), wanted)
        self.judges(self.judge(LOST, SLIP), ("often", ("",), ("0",)), False)

    def test_rounds_gone_through_twice(self):
        source = random.Random(609)
        many = 0
        for row in SOME:
            faults = list(all_faults(row))
            for fault in source.sample(faults, min(len(faults), 8)):
                paper = paper_of_tests(row, fault)
                if paper[0] != "often":
                    continue
                _, head, turn = paper
                many += 1
                for given in ((head, twice(turn)), (joined(head, turn), turn), (joined(head, twice(turn)), twice(turn))):
                    self.judges(self.judge(row, fault), ("often",) + given, True)
                other = tuple(["".join([source.choice("01") for _ in range(4)]) for _ in range(row.inputs)])
                self.judges(self.judge(row, fault), ("often", head, other), is_often(row, fault, head, other))
                self.judges(self.judge(row, fault), ("often", other, turn), is_often(row, fault, other, turn))
        self.assertGreater(many, 80)

    def test_ranks_of_others(self):
        judge = self.judge(LOST, SLIP)
        for ranks, wanted in (({(0, ()): 1, (0, (1,)): 0, (2, ()): 0}, True), ({(0, ()): 0, (0, (1,)): 0, (2, ()): 0}, False),
                              ({(0, ()): 9, (0, (1,)): 3, (2, ()): 3}, True), ({(0, ()): 9, (0, (1,)): 3, (2, ()): 4}, False),
                              ({(0, ()): -4, (0, (1,)): -5, (2, ()): -10 ** 199}, True), ({(2, ()): 0, (0, (1,)): 0, (0, ()): 1}, True),
                              ({(0, ()): 1, (0, (1,)): 0, (2, ()): -10 ** 200}, False), ({(0, ()): 10 ** 200, (0, (1,)): 0, (2, ()): 0}, False),
                              ({(0, ()): 10 ** 200 - 1, (0, (1,)): 1 - 10 ** 199, (2, ()): 1 - 10 ** 200}, True),
                              ({(0, ()): 1, (2, ()): 0}, False), ({(0, ()): 1, (0, (1,)): 0}, False), ({(0, (1,)): 0, (2, ()): 0}, False),
                              ({(0, ()): True, (0, (1,)): 0, (2, ()): 0}, False), ({(0, ()): 1, (0, (True,)): 0, (2, ()): 0}, False),
                              ({(False, ()): 1, (0, (1,)): 0, (2, ()): 0}, False), ({(0, ()): "1", (0, (1,)): 0, (2, ()): 0}, False),
                              ({(0, ()): 1, (0, (1,)): 0, (2, ()): 0, (1, ()): 1}, True), ({(0, ()): 1, (0, (1,)): 0, (2, ()): 0, (1, ()): 0}, False),
                              ({(0, ()): 1, (0, (1,)): 0, (2, ()): 0, (1, (0,)): 5}, True), ({(0, ()): 1, (0, (1,)): 0, (2, ()): 0, (0, (0,)): -7}, True),
                              ({(0, ()): 1, (0, (1,)): 0, (2, ()): 0, (3, ()): 0}, False), ({(0, ()): 1, (0, (1,)): 0, (2, ()): 0, (0, (2, 1)): 0}, False),
                              ({(0, ()): 1, (0, (1,)): 0, (2, ()): 0, (0, (1, 1)): 0}, False), ({(0, ()): 1, (0, (1,)): 0, (2, ()): 0, 0: 0}, False),
                              ({(0, ()): 1, (0, (1,)): 0, (2, ()): 0, (0, (), ()): 0}, False), ({(0, ()): 1, (0, (1,)): 0, (2, ()): 0, (0, (3,)): 0}, False),
                              ({}, False), ([], False), (None, False), ((((0, ()), 1),), False)):
            self.holds(is_right(LOST, SLIP, ("rare", ranks)), wanted)
            self.judges(judge, ("rare", ranks), wanted)

    def test_ranks_of_further_nodes(self):
        source = random.Random(611)
        accepted = 0
        for row in [LOST] + [row for row in some_leftward(608, 60, 5) if row.lefts > 2]:
            for fault in all_faults(row)[::5]:
                paper = paper_of_tests(row, fault)
                if paper[0] != "rare":
                    continue
                for _ in range(4):
                    ranks = dict(paper[1])
                    more = (source.randrange(row.lefts), tuple(sorted(source.sample(range(row.lefts), source.randint(0, 2)))))
                    ranks[more] = source.choice((0, 1, 9))
                    accepted += is_right(row, fault, ("rare", ranks)) and more not in paper[1]
                    self.judges(self.judge(row, fault), ("rare", ranks), is_right(row, fault, ("rare", ranks)))
                for node in paper[1]:
                    ranks = {other: rank for other, rank in paper[1].items() if other != node}
                    self.judges(self.judge(row, fault), ("rare", ranks), is_right(row, fault, ("rare", ranks)))
                    ranks[node] = paper[1][node] + 1
                    self.judges(self.judge(row, fault), ("rare", ranks), is_right(row, fault, ("rare", ranks)))
        self.assertGreater(accepted, 3)

    def test_no_other_form_has_ranks(self):
        self.judges(self.judge(ADD, CARRY), ("rare", {(0, ()): 1, (0, (1,)): 0, (1, ()): 0}), False)
        row = Row(((1, 1), (1, 1)), ((0, 0),), ((("0", "0"),), (("0", "1"),)))
        fault = ("out", 0, "0", "1")
        self.holds(paper_of_tests(row, fault), ("few", 0))
        for value, wanted in ((("rare", {(0, ()): 1, (1, ()): 0}), False), (("few", 0), True), (("few", 1), False), (("few", False), False),
                              (("few", -1), False), (("few",), False), (("few", None), False), (("few", 0, 0), False), (("Few", 0), False)):
            self.judges(self.judge(row, fault), value, wanted)

    def test_spoiled_papers(self):
        row = Row(((1, 1), (1, 1)), ((0, 0),), ((("0", "0"),), (("0", "1"),)))
        for row, fault in ((ADD, CARRY), (LOST, SLIP), (AGAIN, ("on", 0, "00", 2)), (row, ("out", 0, "0", "1")), (ADD, ("out", 1, "11", "0"))):
            for value in spoiled(paper_of_tests(row, fault)):
                self.judges(self.judge(row, fault), value, is_right(row, fault, value))
            for value in KINDS:
                self.judges(self.judge(row, fault), value, False)

    def test_order_of_keys(self):
        for row in SOME:
            for fault in all_faults(row)[::7]:
                paper = paper_of_tests(row, fault)
                if paper[0] == "rare":
                    self.holds(list(paper[1]), sorted(paper[1]))
                    self.holds(set(paper[1]), set(graph_of(row, fault)))

    def test_just_enough_nodes_and_more(self):
        row, more = crowded(3), crowded(4)
        paper = paper_of_tests(row, CROWD)
        self.holds([paper[0], is_test_paper(row, CROWD, paper), is_test_paper(more, CROWD, paper)], ["often", True, True])
        self.holds(paper_of_tests(more, ("out", 0, "00", "1"))[0], "often")
        self.holds(paper_of_tests(more, ("on", 0, "00", 2)), ("never",))
        for call in (lambda: paper_of_tests(more, CROWD), lambda: are_tests_bounded(more), lambda: lot_limit(more),
                     lambda: complete_lot(more, 0), lambda: complete_lot(more, 60)):
            with self.assertRaises(TooMany) as caught:
                call()
            self.holds(caught.exception.limit, 20000)
        self.refuses((InvalidNumber, 61), complete_lot, more, 61)
        # What has to do with a single width asks for no nodes.
        self.holds(missed(more, 0, ()), None)
        self.assertTrue(missed(more, 60, ()) is not None)

    def test_nothing_is_shared(self):
        paper, other = paper_of_tests(LOST, SLIP), paper_of_tests(LOST, SLIP)
        self.holds(paper, other)
        paper[1][(0, ())] = 99
        self.holds(paper_of_tests(LOST, SLIP), other)
        value = copy.deepcopy(other)
        self.assertTrue(is_test_paper(LOST, SLIP, value))
        self.holds(value, other)


def twice(words):
    return tuple([word * 2 for word in words])


def joined(one, other):
    return tuple([first + second for first, second in zip(one, other)])


def doubled_left(row):
    """A row from the left that is alike, with each signal twice."""
    on = [tuple([led + row.lefts * (place % 2) for place, led in enumerate(line)]) for line in row.on]
    return row_with(tuple(on + on), row.back, row.out + row.out)


def is_on_ring(row, signal):
    """Whether each column leads a signal to one that can come back to it."""
    for led in row.on[signal]:
        come = [led]
        for other in come:
            come += [ahead for ahead in row.on[other] if ahead not in come]
        if signal not in come:
            return False
    return True


class Bounds(Checks):
    def test_against_papers(self):
        told = {True: 0, False: 0}
        for row in SOME + some_leftward(612, 30, 4):
            wanted = not any([form_of_tests(row, fault) == "rare" for fault in all_faults(row)])
            told[wanted] += 1
            self.assertIs(are_tests_bounded(row), wanted)
            self.assertIs(lot_limit(row) is not None, wanted)
        self.assertGreater(min(told.values()), 5)

    def test_known_rows(self):
        self.holds([are_tests_bounded(row) for row in (ADD, AGAIN, LOST, copied(1), negated(), times(3), later("0"))],
                   [True, True, False, True, False, True, True])
        # The first bit 1 of a negated number can stand at one place only.
        self.holds(paper_of_tests(negated(), ("on", 0, "1", 0))[0], "rare")
        self.holds([lot_limit(LOST), lot_limit(ADD) >= 4, lot_limit(copied(1)) >= 2], [None, True, True])

    def test_an_entry_on_a_ring_is_not_enough(self):
        # 0.20: the entry leads 0 to 0, and yet there is no fixed number of tests.
        self.holds([LOST.on[0][0], paper_of_tests(LOST, SLIP)[0], are_tests_bounded(LOST)], [0, "rare", False])

    def test_rows_all_of_whose_entries_lie_on_rings(self):
        rows = [row for row in SOME + some_leftward(614, 60, 4) if all([is_on_ring(row, signal) for signal in range(row.lefts)])]
        self.assertGreater(len([row for row in rows if row.lefts > 1]), 10)
        self.assertTrue(all([are_tests_bounded(row) for row in rows]))

    def test_lots(self):
        for row in SOME + some_leftward(613, 12, 6):
            limit = lot_limit(row)
            sizes = []
            for width in (0, 1, 2, 3, 7, 20, 59, 60):
                lot = complete_lot(row, width)
                self.assertTrue(type(lot) is tuple and all([is_input(row.inputs, words) for words in lot]))
                self.holds([is_complete(row, width, lot), {len(words[0]) for words in lot} <= {width}], [True, True])
                sizes.append(len(lot))
            if limit is not None:
                self.assertLessEqual(max(sizes), limit)

    def test_places_that_only_one_input_comes_to(self):
        # A tree: each of its four last signals is reached in one way, and each of their two columns calls for an input.
        on = ((1, 2), (3, 4), (5, 6), (7, 7), (7, 7), (7, 7), (7, 7), (7, 7))
        row = Row(on, ((0, 0),), ((("0", "0"),),) * 8)
        self.holds([paper_of_tests(row, ("out", signal, "1", "1")) for signal in (0, 1, 6)], [("few", 0), ("few", 1), ("few", 2)])
        self.assertGreaterEqual(lot_limit(row), 8)
        for width in (3, 4, 60):
            lot = complete_lot(row, width)
            self.holds([is_complete(row, width, lot), 8 <= len(lot) <= lot_limit(row)], [True, True])
        every = tuple(all_words(1, 3))
        self.holds([is_complete(row, 3, every), [is_complete(row, 3, every[:at] + every[at + 1:]) for at in range(8)]], [True, [False] * 8])

    def test_limits_are_enough(self):
        # A least complete lot of a small width is no greater than the limit.
        for row in [row for row in SOME if row.inputs == 1 and row.lefts < 4]:
            limit = lot_limit(row)
            for width in (1, 2, 3):
                every = [found_by(row, (words,)) for words in all_words(1, width)]
                wanted = set().union(*every)
                least = next(many for many in range(len(every) + 1)
                             if any([set().union(*some) == wanted for some in itertools.combinations(every, many)]))
                self.assertTrue(limit is None or least <= limit)
                self.assertLessEqual(least, len(complete_lot(row, width)))

    def test_tests_that_are_not_bounded(self):
        # Each input finds the fault at one place only, so there are more and more of them.
        for width in (3, 5, 7):
            places = [[place for fault, place in faults_found(LOST, words) if fault == SLIP] for words in all_words(1, width)]
            self.holds(max([len(found) for found in places]), 1)
            self.holds(len(fault_places(LOST, SLIP, width)), width - 1)
            self.assertGreaterEqual(len(complete_lot(LOST, width)), width - 1)

    def test_lots_do_not_grow(self):
        for row in (ADD, times(3), later("0"), greater(), copied(1), subtracted()):
            sizes = [len(complete_lot(row, width)) for width in (20, 40, 60)]
            self.assertLessEqual(max(sizes), lot_limit(row))
            self.holds(sizes[1], sizes[2])

    def test_needless_signals(self):
        for row in (LOST, ADD, later("0"), times(3)):
            self.assertIs(are_tests_bounded(doubled_left(row)), are_tests_bounded(row))
        # A wrong signal that is not reached counts in a row, and is gone in the least row.
        self.holds([are_tests_bounded(LOST), are_tests_bounded(least_row(LOST))], [False, True])

    def test_rows_of_rows(self):
        for row in (behind(times(3), times(5)), repeated(later("0"), 3), behind(negated(), later("0"))):
            limit = lot_limit(row)
            lot = complete_lot(row, 30)
            self.holds([is_complete(row, 30, lot), limit is None or len(lot) <= limit], [True, True])

    def test_equal_calls(self):
        for row in READY:
            self.holds([complete_lot(row, 9), lot_limit(row)], [complete_lot(row, 9), lot_limit(row)])
            for fault in all_faults(row)[::9]:
                self.holds(paper_of_tests(row, fault), paper_of_tests(row, fault))

    def test_finding_inputs_are_tests(self):
        for row in READY:
            for fault in all_faults(row)[::3]:
                found = finding_input(row, fault)
                if found is not None:
                    words, place = found
                    self.assertIn((fault, place), found_by(row, (words,)))
                    self.assertIn((fault, place), found_by(row, complete_lot(row, len(words[0]))))
