"""Walks from starts to all that steps lead them to, and classes of what steps lead on."""

from slicerows.errors import TooMany


def explored(starts, follow, limit=None):
    """All states to which steps lead the starts, with the distance, the state ahead and the last step of each.

    `follow(state)` tells the pairs of a step and of a state to which it leads. The states stand in the order of
    their first ways: by the number of steps, then by the starts and the steps in order. Raise if there are more
    states than the limit allows.
    """
    ways = {start: (0, None, None) for start in starts}
    queue = list(ways)
    at = 0
    while at < len(queue):
        state = queue[at]
        at += 1
        for step, found in follow(state):
            if found not in ways:
                if len(ways) == limit:
                    raise TooMany(limit)
                ways[found] = (ways[state][0] + 1, state, step)
                queue.append(found)
    return ways


def walked(start, many, lead, limit=None):
    """All states to which so many steps lead a start, as above; `lead(state, step)` tells the state behind a step."""
    return explored([start], lambda state: [(step, lead(state, step)) for step in range(many)], limit)


def steps_to(ways, state):
    """The steps of the first way to a state of a walk, in order."""
    steps = []
    distance, ahead, step = ways[state]
    while distance > 0:
        steps.append(step)
        distance, ahead, step = ways[ahead]
    return steps[::-1]


def numbers_of(ways):
    """For each state of a walk its number in the order of the walk."""
    return {state: at for at, state in enumerate(list(ways))}


def led_numbers(ways, many, lead):
    """For each state of a walk, in order, the numbers of the states to which so many steps lead it."""
    numbers = numbers_of(ways)
    return [[numbers[lead(state, step)] for step in range(many)] for state in ways]


def numbered(marks, limit=None):
    """For each mark its number, in the order in which the marks come first. Raise if there are more than a limit."""
    numbers = {}
    found = [numbers.setdefault(mark, len(numbers)) for mark in marks]
    if limit is not None and len(numbers) > limit:
        raise TooMany(limit)
    return found


def parted(steps, marks, limit=None):
    """The numbers of the classes of states, in the order in which the classes come first.

    `steps[state]` tells the states to which the steps lead a state. Two states are of one class if all
    ways from them come to the same marks. Raise if there are more classes than a limit.
    """
    coarse = numbered(marks, limit)
    while True:
        marks = [(coarse[state], tuple([coarse[found] for found in led])) for state, led in enumerate(steps)]
        fine = numbered(marks, limit)
        if max(fine) == max(coarse):
            return fine
        coarse = fine
