"""Two rows that read one input together, and where their outputs part."""

from slicerows.base.walks import numbered, steps_to, walked
from slicerows.rows.rows import input_at


def pair_ways(one, other, start):
    """The walk from a pair of signals from the left of two rows over all pairs to which columns lead it."""
    first, second = one.on, other.on
    return walked(start, len(first[0]), lambda pair, place: (first[pair[0]][place], second[pair[1]][place]))


def views(one, other, pairs):
    """For the signals from the left of two rows what they make beside pairs of signals from the right.

    Equal numbers tell equal output columns for all columns. They are compared many times, so it is done once here.
    """
    mine = [[line[pair[0]] for pair in pairs] for line in one.out]
    others = [[line[pair[1]] for pair in pairs] for line in other.out]
    marks = numbered([cell for line in mine + others for cell in line])
    many = len(pairs)
    lines = [marks[at * many:(at + 1) * many] for at in range(len(mine) + len(others))]
    return lines[:len(mine)], lines[len(mine):]


def first_unlike(one, other):
    """The first index at which two lists of one length are different, or None."""
    if one == other:
        return None
    return min([at for at, mark in enumerate(one) if mark != other[at]])


def parting_input(one, other, lefts, rights):
    """Any input of least width for which two rows make different outputs, or None.

    Their first cells get the signals of the pair `lefts` from the left, their last cells those of the pair
    `rights` from the right.
    """
    ways = pair_ways(one, other, lefts)
    backs = pair_ways(~one, ~other, rights)
    pairs = list(backs)
    mine, others = views(one, other, pairs)
    best = None
    for ahead in ways:
        if best is not None and ways[ahead][0] >= best[0]:
            break
        at = first_unlike(mine[ahead[0]], others[ahead[1]])
        if at is not None:
            width = ways[ahead][0] + backs[pairs[at]][0]
            if best is None or width < best[0]:
                best = (width, ahead, pairs[at])
    if best is None:
        return None
    _, ahead, behind = best
    place = first_unlike(list(one.out[ahead[0]][behind[0]]), list(other.out[ahead[1]][behind[1]]))
    return input_at(one, steps_to(ways, ahead) + [place] + steps_to(backs, behind)[::-1])
