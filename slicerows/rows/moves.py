"""How the signals of both sides at one boundary of a row can go on to the next boundary."""

from slicerows.base.bits import columns


def moves_of(row):
    """For each signal from the left and each one from the right at a boundary the moves over the next cell.

    A move tells the place of the column, the place of the output column, and the signals behind the cell.
    """
    places = {column: place for place, column in enumerate(columns(row.outputs))}
    found = [[[] for _ in range(row.rights)] for _ in range(row.lefts)]
    for left, line in enumerate(row.on):
        for place, ahead in enumerate(line):
            for right, handed in enumerate(row.back):
                made = places[row.out[left][right][place]]
                found[left][handed[place]].append((place, made, ahead, right))
    return found
