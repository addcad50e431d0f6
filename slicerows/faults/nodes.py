"""Nodes: a signal of the right row, and the signals of rows that broke earlier and are not yet told from it.

Inside, a node is a pair of a signal and of a mask with bits 1 at such signals.
"""

from slicerows.back.sets import bits_of, mask_of
from slicerows.base.bits import MAX_BITS
from slicerows.base.walks import explored, numbers_of, steps_to
from slicerows.faults.splits import Splits

MAX_NODES = 20000
FEW_NODES = 100


class Leads:
    """What columns make of nodes of a row from the left, whatever the fault is."""

    def __init__(self, row):
        self.table = row.on
        self.splits = Splits(row)
        classes = self.splits.classes()
        signals = list(range(row.lefts))
        # For each signal the mask of the signals of its class.
        self.alike = [mask_of([other for other in signals if classes[other] == classes[signal]]) for signal in signals]
        # For each signal and each column, by its place, the mask of the signals that make the same output column.
        self.same = [[mask_of([other for other in signals if row.out[other][0][place] == made])
                      for place, made in enumerate(line[0])] for line in row.out]
        # No node to which steps lead has a signal beside one of its class.
        self.most = sum([1 << (row.lefts - len(bits_of(mask))) for mask in self.alike])
        # Most nodes are asked for again and again, for fault after fault.
        self.known = {}

    def is_alike(self, one, other):
        """Whether two signals are of one class."""
        return (self.alike[one] >> other) & 1 == 1

    def is_same(self, one, other, place):
        """Whether two signals make the same output column by a column, by its place."""
        return (self.same[one][place] >> other) & 1 == 1

    def steps_from(self, node):
        """The pairs of the place of a column and of the node to which it leads a node, if there is such a step."""
        if node not in self.known:
            signal, mask = node
            led = [(place, ahead, self.led_mask(signal, mask, place)) for place, ahead in enumerate(self.table[signal])]
            self.known[node] = [(place, (ahead, found)) for place, ahead, found in led
                                if found & self.alike[ahead] == 0]
        return self.known[node]

    def led_mask(self, signal, mask, place):
        """The mask of the signals to which a column leads those of a mask that make the same as a signal."""
        found = 0
        for other in bits_of(mask & self.same[signal][place]):
            found |= 1 << self.table[other][place]
        return found


class Nodes:
    """The steps from node to node for a fault."""

    def __init__(self, leads, fault):
        kind, self.signal, column, wrong = fault
        self.leads = leads
        self.place = int(column, 2)
        # What a counting step puts into the mask.
        self.added = 1 << wrong if kind == "on" else 0

    def follow(self, node):
        """The pairs of a step and of the node to which it leads a node; a step is a place and 1 if it counts."""
        led = self.leads.steps_from(node)
        found = [((place, 0), ahead) for place, ahead in led]
        if node[0] == self.signal:
            counting = [ahead for place, ahead in led if place == self.place]
            found = found + [((self.place, 1), (ahead[0], ahead[1] | self.added)) for ahead in counting]
        return found

    def walk(self):
        """All nodes to which the first one leads, and their edges."""
        found = list(explored([(self.signal, 0)], lambda node: self.follow(node), MAX_NODES))
        return found, self.edges_among(found)

    def few_edges(self):
        """The edges of a few nodes to which the first one leads, it among them."""
        found = {(self.signal, 0): True}
        queue = list(found)
        at = 0
        while at < len(queue) < FEW_NODES:
            for _, led in self.follow(queue[at]):
                if led not in found:
                    found[led] = True
                    queue.append(led)
            at += 1
        return self.edges_among(queue)

    def edges_among(self, found):
        """For each of some nodes the edges to such nodes, by their numbers; those of counting steps have the gain 1."""
        numbers = numbers_of(found)
        return [[(step, numbers[led], step[1]) for step, led in self.follow(node) if led in numbers] for node in found]


def turn_through(edges, number, step):
    """The places of the least columns that lead a node, by its number, back to itself, the first one by a step."""
    led = [found for other, found, _ in edges[number] if other == step][0]
    ways = explored([led], lambda state: [(other[0], found) for other, found, _ in edges[state]])
    return [step[0]] + steps_to(ways, number)


def turn_in(edges, rings):
    """The places of columns that lead some node back to itself by steps, the first of which counts."""
    turns = []
    # Most rings are short; only a turn that is too long for a word is not enough.
    for number, step in [both for ring in rings for both in ring if both[1][1] == 1]:
        turns.append(turn_through(edges, number, step))
        if len(turns[-1]) <= MAX_BITS:
            break
    return turns[-1]
