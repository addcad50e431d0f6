"""Left sets of a row as numbers: the bit left * rights + right of a mask tells whether the pair is in the set."""

from slicerows.base.walks import explored
from slicerows.rows.moves import moves_of


def mask_of(indices):
    """The mask with bits 1 at the indices."""
    found = 0
    for at in indices:
        found |= 1 << at
    return found


def bits_of(mask):
    """The indices of the bits 1 of a mask, ascending."""
    return [at for at, bit in enumerate(f"{mask:b}"[::-1]) if bit == "1"]


class Sets:
    """What leads the left sets of a row by output columns."""

    def __init__(self, row):
        self.rights_many = row.rights
        self.start = mask_of(list(range(row.rights)))
        self.ending = mask_of([left * row.rights for left in range(row.lefts)])
        self.known = {}
        # For each output column and each pair of signals the set of pairs to which it leads the pair.
        self.masks = [[0] * (row.lefts * row.rights) for _ in range(1 << row.outputs)]
        # For each output column and each pair of signals the pairs that it leads there, with the places of columns.
        self.sources = [[[] for _ in range(row.lefts * row.rights)] for _ in range(1 << row.outputs)]
        for left, line in enumerate(moves_of(row)):
            for right, moves in enumerate(line):
                self.add_moves(left * row.rights + right, moves)

    def add_moves(self, pair, moves):
        """Put the moves of a pair of signals into the tables."""
        for place, made, ahead, behind in moves:
            led = ahead * self.rights_many + behind
            self.masks[made][pair] |= 1 << led
            self.sources[made][led].append((place, pair))

    def follow(self, mask, made):
        """The set to which an output column, by its place, leads a set."""
        masks = self.masks[made]
        found = 0
        for at in bits_of(mask):
            found |= masks[at]
        return found

    def follow_all(self, mask):
        """The sets to which all output columns, in order, lead a set."""
        if mask not in self.known:
            self.known[mask] = [self.follow(mask, made) for made in range(len(self.masks))]
        return self.known[mask]

    def is_ended(self, mask):
        """Whether a set has a pair at which an input can end."""
        return mask & self.ending != 0

    def pairs(self, mask):
        """The set as an ascending tuple of pairs."""
        return tuple([(at // self.rights_many, at % self.rights_many) for at in bits_of(mask)])

    def walk(self, limit):
        """The walk over all sets to which output columns lead the first one."""
        return explored([self.start], lambda mask: list(enumerate(self.follow_all(mask))), limit)
