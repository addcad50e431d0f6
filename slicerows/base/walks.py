"""Walks from a start to all that steps lead it to, and classes of what steps lead on."""


def walked(start, many, lead):
    """All states to which steps lead a start, with the distance, the state ahead and the last step of each.

    `lead(state, step)` tells the state to which one of so many steps leads. The states stand in the order
    of their first ways: by the number of steps, then by the steps in order.
    """
    ways = {start: (0, None, None)}
    queue = [start]
    at = 0
    while at < len(queue):
        state = queue[at]
        at += 1
        for step in range(many):
            found = lead(state, step)
            if found not in ways:
                ways[found] = (ways[state][0] + 1, state, step)
                queue.append(found)
    return ways


def steps_to(ways, state):
    """The steps of the first way to a state of a walk, in order."""
    steps = []
    distance, ahead, step = ways[state]
    while distance > 0:
        steps.append(step)
        distance, ahead, step = ways[ahead]
    return steps[::-1]


def numbered(marks):
    """For each mark its number, in the order in which the marks come first."""
    numbers = {}
    return [numbers.setdefault(mark, len(numbers)) for mark in marks]


def parted(steps, marks):
    """The numbers of the classes of states, in the order in which the classes come first.

    `steps[state]` tells the states to which the steps lead a state. Two states are of one class if all
    ways from them come to the same marks.
    """
    coarse = numbered(marks)
    while True:
        fine = numbered([(coarse[state], tuple([coarse[found] for found in led])) for state, led in enumerate(steps)])
        if max(fine) == max(coarse):
            return fine
        coarse = fine
