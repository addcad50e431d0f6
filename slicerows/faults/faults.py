"""Cells with one wrong entry, and the inputs that find them."""

from slicerows.base.bits import columns, columns_in, is_ascending, is_column, is_index_set, is_input, is_within
from slicerows.base.bits import need_number, need_words, words_in
from slicerows.base.walks import numbered, steps_to, walked
from slicerows.errors import InvalidFault, InvalidOperation
from slicerows.faults.splits import Splits
from slicerows.judge.alike import is_pair
from slicerows.rows.rows import input_at, need_row, passed, reached, ways_of

MAX_PLACES = 400


def need_leftward(row):
    """Raise unless a value is a row that goes from the left."""
    need_row(row)
    if row.rights != 1:
        raise InvalidOperation("the row does not go from the left")


def need_fault(row, value):
    """Raise unless two values are a row that goes from the left and a fault of it."""
    if not is_fault(row, value):
        raise InvalidFault("not a fault of the row")


def is_fault(row, value):
    """Whether a value is a fault of a row."""
    need_leftward(row)
    if not isinstance(value, tuple) or len(value) != 4:
        return False
    kind, signal, column, wrong = value
    if not is_within(signal, 0, row.lefts - 1) or not is_column(row.inputs, column):
        return False
    place = int(column, 2)
    if kind == "on":
        return is_within(wrong, 0, row.lefts - 1) and wrong != row.on[signal][place]
    return kind == "out" and is_column(row.outputs, wrong) and wrong != row.out[signal][0][place]


def all_faults(row):
    """All faults of a row, ascending."""
    need_leftward(row)
    told = list(enumerate(columns(row.inputs)))
    on = [("on", signal, column, wrong) for signal, line in enumerate(row.on) for place, column in told
          for wrong in range(row.lefts) if wrong != line[place]]
    out = [("out", signal, column, wrong) for signal, line in enumerate(row.out) for place, column in told
           for wrong in columns(row.outputs) if wrong != line[0][place]]
    return tuple(on + out)


def broken_run(row, fault, words, place):
    """The output columns of the broken row for an input."""
    kind, signal, column, wrong = fault
    told = columns_in(words)
    places = [int(found, 2) for found in told]
    lefts = passed(row.on, 0, places)
    hit = lefts[place] == signal and told[place] == column
    if hit and kind == "on":
        lefts = lefts[:place + 1] + passed(row.on, wrong, places[place + 1:])
    made = [row.out[left][0][found] for left, found in zip(lefts, places)]
    if hit and kind == "out":
        made[place] = wrong
    return made


def need_placed(row, fault, words, place):
    """Raise unless the values are a row from the left, a fault, an input and an index of it."""
    need_fault(row, fault)
    need_words(row.inputs, words)
    need_number(place, 0, len(words[0]) - 1)


def broken_output(row, fault, words, place):
    """The output of the row with a broken cell for an input."""
    need_placed(row, fault, words, place)
    return words_in(row.outputs, broken_run(row, fault, words, place))


def finds(row, fault, words, place):
    """Whether an input finds a fault at a place."""
    need_placed(row, fault, words, place)
    return words_in(row.outputs, broken_run(row, fault, words, place)) != row.made(words)


def right_signal(row, fault):
    """The signal that the row hands on where a fault is."""
    _, signal, column, _ = fault
    return row.on[signal][int(column, 2)]


def finding_tail(row, splits, fault):
    """The places of least columns behind the place of a fault that find it where it is reached, or None."""
    if fault[0] == "out":
        return []
    right = right_signal(row, fault)
    return None if splits.distance(right, fault[3]) is None else splits.places(right, fault[3])


def finding_input(row, fault):
    """Any input of least width that finds a fault, and the place of this, or None."""
    need_fault(row, fault)
    ways = ways_of(row)
    tail = finding_tail(row, Splits(row), fault)
    _, signal, column, _ = fault
    if tail is None or signal not in ways:
        return None
    head = steps_to(ways, signal)
    return (input_at(row, head + [int(column, 2)] + tail), len(head))


def arrivals(row, width):
    """For each signal a mask with bits 1 at the widths, below this one, of the beginnings that lead 0 to it."""
    found = [0] * row.lefts
    signals = (0,)
    for at in range(width):
        for signal in signals:
            found[signal] |= 1 << at
        signals = tuple(sorted(set([led for signal in signals for led in row.on[signal]])))
    return found


def places_mask(fault, arrived, splits, row, width):
    """A mask with bits 1 at the places at which some input of a width finds a fault."""
    tail = 0 if fault[0] == "out" else splits.distance(right_signal(row, fault), fault[3])
    if tail is None or tail >= width:
        return 0
    return arrived[fault[1]] & ((1 << (width - tail)) - 1)


def fault_places(row, fault, width):
    """The places at which some input of a width finds a fault, ascending."""
    need_fault(row, fault)
    need_number(width, 0, MAX_PLACES)
    mask = places_mask(fault, arrivals(row, width), Splits(row), row, width)
    return tuple([place for place in range(width) if (mask >> place) & 1])


def tail_marks(row, places):
    """For each boundary of an input, and each signal there, a mark; equal ones make the same columns from there on."""
    marks = [[0] * row.lefts]
    for place in places[::-1]:
        marks.append(numbered([(row.out[signal][0][place], marks[-1][row.on[signal][place]])
                               for signal in range(row.lefts)]))
    return marks[::-1]


def found_at(row, words):
    """The pairs of a fault and of a place of all faults that an input finds, by the places."""
    told = columns_in(words)
    places = [int(column, 2) for column in told]
    lefts = passed(row.on, 0, places)
    marks = tail_marks(row, places)
    outs = columns(row.outputs)
    found = []
    for at, column in enumerate(told):
        signal, ahead = lefts[at], lefts[at + 1]
        right = row.out[signal][0][places[at]]
        later = marks[at + 1]
        wrongs = [("on", signal, column, wrong) for wrong, mark in enumerate(later) if mark != later[ahead]]
        wrongs = wrongs + [("out", signal, column, wrong) for wrong in outs if wrong != right]
        found.extend([(fault, at) for fault in wrongs])
    return found


def faults_found(row, words):
    """The pairs of a fault and of a place of all faults that an input finds, ascending."""
    need_leftward(row)
    need_words(row.inputs, words)
    return tuple(sorted(found_at(row, words)))


def fault_paper(row, fault):
    """A paper that an input finds a fault, or that none does."""
    found = finding_input(row, fault)
    if found is not None:
        return ("found", found[0], found[1])
    signals = reached(row)
    if fault[1] not in signals:
        return ("never", signals, ())
    # Whatever columns come, both signals make the same.
    pairs = walked((right_signal(row, fault), fault[3]), len(row.on[0]),
                   lambda pair, place: (row.on[pair[0]][place], row.on[pair[1]][place]))
    return ("never", signals, tuple(sorted(list(pairs))))


def are_led_signals(row, value):
    """Whether a value is an ascending tuple of signals that has 0 and all those to which columns lead its signals."""
    if not is_index_set(value, row.lefts) or 0 not in value:
        return False
    return all([led in value for signal in value for led in row.on[signal]])


def are_same_pairs(row, first, value):
    """Whether a value is an ascending tuple of pairs that shows that nothing parts the signals of the first one."""
    if not isinstance(value, tuple) or not all([is_pair(pair, row.lefts, row.lefts) for pair in value]):
        return False
    held = {pair: True for pair in value}
    led = [both for one, other in value for both in zip(row.on[one], row.on[other])]
    if not is_ascending(value) or first not in held or not all([both in held for both in led]):
        return False
    return all([row.out[one][0] == row.out[other][0] for one, other in value])


def is_fault_paper(row, fault, value):
    """Whether a value is a paper that an input finds a fault, or that none does."""
    need_fault(row, fault)
    if not isinstance(value, tuple) or len(value) != 3:
        return False
    if value[0] == "found":
        _, words, place = value
        if not is_input(row.inputs, words) or not is_within(place, 0, len(words[0]) - 1):
            return False
        return finds(row, fault, words, place)
    if value[0] != "never" or not are_led_signals(row, value[1]):
        return False
    if fault[1] not in value[1]:
        return value[2] == ()
    return fault[0] == "on" and are_same_pairs(row, (right_signal(row, fault), fault[3]), value[2])
