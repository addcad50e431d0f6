"""Heights of states that are at least what edges ask for, or rings of edges on which they would grow without end.

The edges of a state are triples of a step, of the state to which it leads, and of a gain: the height there is at
least the height here and the gain together.
"""


def is_raised(edges, heights, ahead):
    """Whether an edge still asks for more. Each edge raises its height, and `ahead` keeps the last edge that did."""
    changed = False
    for state, line in enumerate(edges):
        for step, led, gain in line:
            if heights[led] < heights[state] + gain:
                heights[led] = heights[state] + gain
                ahead[led] = (state, step)
                changed = True
    return changed


def ring_to(ahead, state):
    """The pairs of a state and of a step along the ring of kept edges on which a state stands, from it on."""
    ring = [ahead[state]]
    while ring[-1][0] != state:
        ring.append(ahead[ring[-1][0]])
    return ring[::-1]


def rings_in(ahead):
    """All rings of kept edges."""
    seen = [None] * len(ahead)
    rings = []
    for start in range(len(ahead)):
        state = start
        while seen[state] is None and ahead[state] is not None:
            seen[state] = start
            state = ahead[state][0]
        if seen[state] == start:
            rings.append(ring_to(ahead, state))
    return rings


def climbed(edges):
    """The least heights from 0 on, and no rings; or any heights, and some rings whose gains have a sum above 0."""
    heights = [0] * len(edges)
    ahead = [None] * len(edges)
    # Kept edges close a ring only if its gains have a sum above 0, and without such rings the heights come to an end.
    while is_raised(edges, heights, ahead):
        rings = rings_in(ahead)
        if rings:
            return heights, rings
    return heights, []
