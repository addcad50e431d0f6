"""What the commands of a shell do with a workshop: texts that they answer, or None if they are just done."""

from slicerows.back.back import undoing
from slicerows.back.onto import is_onto
from slicerows.back.pairs import is_one_to_one
from slicerows.faults.lots import are_tests_bounded
from slicerows.judge.alike import are_alike
from slicerows.judge.least import least_row
from slicerows.judge.sides import goes_left
from slicerows.numbers.decided import is_implied
from slicerows.numbers.meaning import means
from slicerows.rows.joined import behind, beside, repeated, together
from slicerows.rows.rows import Row
from slicerows.text.formats import write_row, write_value
from slicerows.ticks.settling import growth_rate, longest_time


def told(parts):
    """The answer that has these parts."""
    return " ".join([str(part) for part in parts]) if parts else "none"


def truth(value):
    """The answer to a question."""
    return "yes" if value else "no"


def keep_row(shop, name, row):
    """Keep a row."""
    shop.keep(name, row)


def keep_behind(shop, name, one, other):
    """Keep one row behind another."""
    shop.keep(name, behind(shop[one], shop[other]))


def keep_together(shop, name, one, other):
    """Keep two rows that share an input."""
    shop.keep(name, together(shop[one], shop[other]))


def keep_beside(shop, name, one, other):
    """Keep two rows that have inputs of their own."""
    shop.keep(name, beside(shop[one], shop[other]))


def keep_repeated(shop, name, one, many):
    """Keep a row behind itself."""
    shop.keep(name, repeated(shop[one], many))


def keep_mirrored(shop, name, one):
    """Keep a mirrored row."""
    shop.keep(name, ~shop[one])


def keep_least(shop, name, one):
    """Keep a least row."""
    shop.keep(name, least_row(shop[one]))


def keep_undoing(shop, name, one):
    """Keep an undoing row."""
    shop.keep(name, undoing(shop[one]))


def drop_row(shop, name):
    """Take a row away."""
    shop.drop(name)


def shrink_row(shop, name):
    """Keep the least row in the place of a row."""
    shop.shrink(name)


def change_on(shop, name, signal, column, other):
    """Hand on another signal from the left."""
    shop.set_on(name, signal, column, other)


def change_back(shop, name, signal, column, other):
    """Hand on another signal from the right."""
    shop.set_back(name, signal, column, other)


def change_out(shop, name, left, right, column, made):
    """Make another output column."""
    shop.set_out(name, left, right, column, made)


def promise_alike(shop, label, one, other):
    """Promise that two rows are alike."""
    shop.promise(label, ("alike", one, other))


def promise_left(shop, label, name):
    """Promise that some row that is alike goes from the left."""
    shop.promise(label, ("left", name))


def promise_single(shop, label, name):
    """Promise that a row is one-to-one."""
    shop.promise(label, ("single", name))


def promise_means(shop, label, name, condition):
    """Promise that a row means a condition."""
    shop.promise(label, ("means", name, condition))


def release_label(shop, label):
    """Take a promise away."""
    shop.release(label)


def take_back(shop, counts):
    """Take calls back."""
    shop.undo(many=counts[0] if counts else 1)


def do_again(shop, counts):
    """Do calls again."""
    shop.redo(many=counts[0] if counts else 1)


def all_names(shop):
    """All names."""
    return told(shop.names)


def all_labels(shop):
    """All labels."""
    return told(shop.labels)


def show_row(shop, name):
    """The text of a row."""
    return write_row(shop[name])


def show_output(shop, name, words):
    """The words of the output for an input."""
    return told([f"={word}" for word in shop.output(name, words)])


def show_fewest(shop, name):
    """The numbers of signals of the least row."""
    row = least_row(shop[name])
    return told([row.lefts, row.rights])


def ask_alike(shop, one, other):
    """Whether two rows are alike."""
    return truth(are_alike(shop[one], shop[other]))


def ask_left(shop, name):
    """Whether some row that is alike goes from the left."""
    return truth(goes_left(shop[name]))


def ask_single(shop, name):
    """Whether a row is one-to-one."""
    return truth(is_one_to_one(shop[name]))


def ask_onto(shop, name):
    """Whether a row is onto."""
    return truth(is_onto(shop[name]))


def ask_means(shop, name, condition):
    """Whether a row means a condition."""
    return truth(means(shop[name], condition))


def ask_implied(_, both):
    """Whether one condition implies another."""
    return truth(is_implied(both[0], both[1]))


def ask_bounded(shop, name):
    """Whether the tests of a row are bounded."""
    return truth(are_tests_bounded(shop[name]))


def show_rate(shop, name, delays):
    """The rate at which the longest time grows."""
    return told(growth_rate(shop[name], delays))


def show_slowest(shop, name, width, delays):
    """The longest time of a width."""
    return told([longest_time(shop[name], delays, width)])


def show_paper(shop, label):
    """The text of a paper of a promise."""
    found = shop.paper(label)
    return write_row(found) if isinstance(found, Row) else write_value(found)


# For each command the kinds of its parts, as slicerows.text.parts reads them, and what it does. Of a promise the sort
# stands here with the command.
COMMANDS = {
    "row": ("wR", keep_row),
    "behind": ("www", keep_behind),
    "together": ("www", keep_together),
    "beside": ("www", keep_beside),
    "repeated": ("wwn", keep_repeated),
    "mirrored": ("ww", keep_mirrored),
    "least": ("ww", keep_least),
    "undoing": ("ww", keep_undoing),
    "drop": ("w", drop_row),
    "shrink": ("w", shrink_row),
    "on": ("wnbn", change_on),
    "back": ("wnbn", change_back),
    "out": ("wnnbb", change_out),
    "promise alike": ("www", promise_alike),
    "promise left": ("ww", promise_left),
    "promise single": ("ww", promise_single),
    "promise means": ("wwC", promise_means),
    "release": ("w", release_label),
    "undo": ("U", take_back),
    "redo": ("U", do_again),
    "names": ("", all_names),
    "labels": ("", all_labels),
    "show": ("w", show_row),
    "output": ("wB", show_output),
    "fewest": ("w", show_fewest),
    "alike": ("ww", ask_alike),
    "left": ("w", ask_left),
    "single": ("w", ask_single),
    "onto": ("w", ask_onto),
    "means": ("wC", ask_means),
    "implied": ("I", ask_implied),
    "rate": ("wD", show_rate),
    "slowest": ("wnD", show_slowest),
    "bounded": ("w", ask_bounded),
    "paper": ("w", show_paper),
}
