"""Lots of inputs that find all faults, and whether some number of inputs is enough at each width."""

from slicerows.back.sets import bits_of, mask_of
from slicerows.base.bits import columns_in, is_index_set, is_input, is_whole, is_within, need_number
from slicerows.base.heights import climbed
from slicerows.errors import InvalidOperation
from slicerows.faults.faults import all_faults, arrivals, found_at, need_fault, need_leftward, places_mask, right_signal
from slicerows.faults.nodes import MAX_NODES, Leads, Nodes, turn_in
from slicerows.faults.splits import Splits
from slicerows.rows.rows import input_at, way_to

MAX_LOT = 60


def need_lot(row, width, lot):
    """Raise unless the values are a row that goes from the left, a width and a lot of this width."""
    need_leftward(row)
    need_number(width, 0, MAX_LOT)
    if not isinstance(lot, tuple) or not all([is_input(row.inputs, words) for words in lot]):
        raise InvalidOperation("not a tuple of inputs")
    if any([len(words[0]) != width for words in lot]):
        raise InvalidOperation("not inputs of the width")


def put_found(found, row, words):
    """Put the faults that an input finds into a dict from faults to masks of places."""
    for fault, place in found_at(row, words):
        found[fault] = found.get(fault, 0) | 1 << place


def findable(row, width):
    """The pairs of a fault and of the mask of the places at which some input of a width finds it, ascending."""
    arrived = arrivals(row, width)
    splits = Splits(row)
    return [(fault, places_mask(fault, arrived, splits, row, width)) for fault in all_faults(row)]


def missed(row, width, lot):
    """The first pair of a fault and of a place that some input of a width finds, and none of a lot, or None."""
    need_lot(row, width, lot)
    found = {}
    for words in lot:
        put_found(found, row, words)
    for fault, mask in findable(row, width):
        left = mask & ~found.get(fault, 0)
        if left != 0:
            return (fault, bits_of(left)[0])
    return None


def is_complete(row, width, lot):
    """Whether a lot finds each fault at each place at which some input of its width finds it."""
    return missed(row, width, lot) is None


class Tester:
    """What tells of each fault of a row which tests it needs."""

    def __init__(self, row):
        self.row = row
        self.leads = Leads(row)
        self.splits = self.leads.splits
        # A beginning with as many columns as there are signals, or more, can be made longer again and again, and if
        # there is one, there is one with less than twice as many.
        self.arrived = arrivals(row, 2 * row.lefts)

    def places_of(self, fault):
        """How many places there can be up to the greatest one at which some input finds a fault, or None."""
        if fault[0] == "on" and self.splits.distance(right_signal(self.row, fault), fault[3]) is None:
            return 0
        many = self.arrived[fault[1]].bit_length()
        return many if many <= self.row.lefts else None

    def tested(self, fault):
        """The form of the paper of a fault, and what this tells: the greatest place, or the places of a turn."""
        many = self.places_of(fault)
        if many == 0:
            return "never", None
        if many is not None:
            return "few", many - 1
        nodes = Nodes(self.leads, fault)
        # Most turns are found at once; all nodes are looked at only if that fails, or if there might be too many.
        edges = nodes.few_edges() if self.leads.most <= MAX_NODES else []
        _, rings = climbed(edges)
        if not rings:
            _, edges = nodes.walk()
            _, rings = climbed(edges)
        return ("often", turn_in(edges, rings)) if rings else ("rare", None)

    def ranks(self, fault):
        """The ranks under the nodes, ascending, for a fault of the last form."""
        nodes, edges = Nodes(self.leads, fault).walk()
        heights, _ = climbed(edges)
        top = max(heights)
        # A node has as great a height as many counting steps can lead there, so behind these the ranks are less.
        ranks = {(node[0], tuple(bits_of(node[1]))): top - height for node, height in zip(nodes, heights)}
        return {node: ranks[node] for node in sorted(list(ranks))}


def test_paper(row, fault):
    """A paper that tells which tests a fault needs."""
    need_fault(row, fault)
    tester = Tester(row)
    form, told = tester.tested(fault)
    if form == "never":
        return (form,)
    if form == "few":
        return (form, told)
    if form == "often":
        return (form, way_to(row, fault[1]), input_at(row, told))
    return (form, tester.ranks(fault))


def is_node(row, value):
    """Whether a value is a node."""
    if not isinstance(value, tuple) or len(value) != 2:
        return False
    return is_within(value[0], 0, row.lefts - 1) and is_index_set(value[1], row.lefts)


def are_ranks(row, leads, fault, value):
    """Whether a value is a dict of ranks of nodes, less ones behind counting steps."""
    if not isinstance(value, dict) or not all([is_node(row, node) and is_whole(value[node]) for node in value]):
        return False
    ranks = {(signal, mask_of(list(others))): value[(signal, others)] for signal, others in value}
    if (fault[1], 0) not in ranks:
        return False
    nodes = Nodes(leads, fault)
    for node in ranks:
        for (_, gain), led in nodes.follow(node):
            if led not in ranks or ranks[led] > ranks[node] - gain:
                return False
    return True


def are_turns(row, leads, fault, head, turn):
    """Whether two values are a beginning that leads to a fault, and an input that finds it again and again."""
    if not is_input(row.inputs, head) or not is_input(row.inputs, turn) or turn[0] == "":
        return False
    told = columns_in(turn)
    if row.led(0, head) != fault[1] or told[0] != fault[2] or row.led(fault[1], turn) != fault[1]:
        return False
    return fault[0] == "out" or is_kept_apart(leads, fault, [int(column, 2) for column in told])


def is_kept_apart(leads, fault, places):
    """Whether the wrong signal of an "on" fault, led on by a turn again and again, never comes to the right one."""
    _, signal, _, wrong = fault
    right = leads.table[signal][places[0]]
    seen = {}
    at = 1
    # Once both stand at one place of the turn as they did before, nothing new comes.
    while (at, wrong) not in seen:
        seen[(at, wrong)] = True
        if leads.is_alike(right, wrong):
            return False
        place = places[at % len(places)]
        if not leads.is_same(right, wrong, place):
            return True
        right, wrong = leads.table[right][place], leads.table[wrong][place]
        at = at % len(places) + 1
    return True


def is_test_paper(row, fault, value):
    """Whether a value is a paper that tells which tests a fault needs."""
    need_fault(row, fault)
    if not isinstance(value, tuple) or not 1 <= len(value) <= 3:
        return False
    tester = Tester(row)
    many = tester.places_of(fault)
    if len(value) == 1:
        return value[0] == "never" and many == 0
    if len(value) == 3:
        return value[0] == "often" and are_turns(row, tester.leads, fault, value[1], value[2])
    if value[0] == "few":
        return is_whole(value[1]) and many is not None and many > 0 and value[1] == many - 1
    return value[0] == "rare" and many is None and are_ranks(row, tester.leads, fault, value[1])


def all_tested(row):
    """What tells of the faults of a row which tests they need, and for each fault, in order, its form and the rest."""
    need_leftward(row)
    tester = Tester(row)
    return tester, [(fault, tester.tested(fault)) for fault in all_faults(row)]


def are_tests_bounded(row):
    """Whether some number of inputs is enough, at each width, for a complete lot."""
    _, told = all_tested(row)
    return not any([form == "rare" for _, (form, _) in told])


def lot_limit(row):
    """A number of inputs that is enough, at each width, for a complete lot, or None."""
    _, told = all_tested(row)
    limit = 0
    for fault, (form, rest) in told:
        if form == "rare":
            return None
        if form == "few":
            # One input for each place is enough.
            limit += rest + 1
        elif form == "often":
            limit += turn_limit(row, fault, rest)
    return limit


def turn_limit(row, fault, turn):
    """A number of inputs that is enough, at each width, for a fault that a turn finds again and again.

    Of the places from which a turn is gone through, those with one rest modulo its width are told by one input for an
    "out" fault. For an "on" fault they are told by one input for each signal to which the wrong one can have come
    when the least end begins that parts it; the places behind this boundary need an input each. The lots of
    `complete_lot` are made so.
    """
    return len(turn) if fault[0] == "out" else (len(turn) + 1) * row.lefts


class Builder:
    """What builds inputs of a width that find faults of a row at told places."""

    def __init__(self, tester, width):
        self.tester = tester
        self.table = tester.row.on
        self.arrived = arrivals(tester.row, width)
        self.until = width
        # Ends of this width part all signals of different classes.
        self.farthest = len(tester.splits.rounds) - 1

    def head(self, signal, many):
        """The places of so many columns that lead 0 to a signal."""
        found = []
        for at in reversed(range(many)):
            ways = [(before, place) for before, line in enumerate(self.table) if (self.arrived[before] >> at) & 1 == 1
                    for place, led in enumerate(line) if led == signal]
            signal, place = ways[0]
            found.append(place)
        return found[::-1]

    def tail(self, fault, places):
        """The places of least columns that part the wrong signal, led on by columns behind its cell, from the right."""
        if fault[0] == "out":
            return []
        right, wrong = right_signal(self.tester.row, fault), fault[3]
        for place in places:
            if not self.tester.leads.is_same(right, wrong, place):
                return []
            right, wrong = self.table[right][place], self.table[wrong][place]
        return self.tester.splits.places(right, wrong)

    def built(self, fault, at, turn):
        """An input that finds a fault at a place. It goes through a turn as long as there is room for all ends."""
        turned = [int(fault[2], 2)]
        if turn:
            border = self.until if fault[0] == "out" else max(at + 1, self.until - self.farthest)
            turned = [turn[index % len(turn)] for index in range(border - at)]
        found = self.head(fault[1], at) + turned
        found = found + self.tail(fault, turned[1:])
        return input_at(self.tester.row, found + [0] * (self.until - len(found)))


def complete_lot(row, width):
    """A complete lot of a width, of at most as many inputs as the limit allows if the tests are bounded."""
    need_leftward(row)
    need_number(width, 0, MAX_LOT)
    tester, told = all_tested(row)
    turns = {fault: rest if form == "often" else [] for fault, (form, rest) in told}
    builder = Builder(tester, width)
    found = {}
    lot = []
    for fault, mask in findable(row, width):
        left = mask & ~found.get(fault, 0)
        while left != 0:
            lot.append(builder.built(fault, bits_of(left)[0], turns[fault]))
            put_found(found, row, lot[-1])
            left = mask & ~found[fault]
    return tuple(lot)
