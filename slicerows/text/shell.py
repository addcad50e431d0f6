"""A shell: lines with commands, and texts that answer them."""

from slicerows.desk.desk import Workshop
from slicerows.errors import Broken, InvalidInput, InvalidName, InvalidNumber, InvalidOperation, InvalidWord
from slicerows.errors import NothingToUndo, SameOutput, TooMany, UnknownName
from slicerows.rows.ready import added, copied, filled, gate, greater, highest, last, later, lowest, negated, parity
from slicerows.rows.ready import picked, sooner, subtracted, times
from slicerows.text.commands import COMMANDS, keep_row, told
from slicerows.text.parts import values_of

WRONG = "what"
# For each ready row the kinds of the arguments of its function.
READY = {
    "copied": "n", "picked": "nO", "gate": "nb", "added": "", "subtracted": "", "negated": "", "times": "n",
    "greater": "", "later": "b", "sooner": "b", "lowest": "", "highest": "", "filled": "", "parity": "", "last": "",
}


def ready_row(word, values):
    """The ready row that a function makes."""
    makers = {
        "copied": copied, "picked": picked, "gate": gate, "added": added, "subtracted": subtracted,
        "negated": negated, "times": times, "greater": greater, "later": later, "sooner": sooner, "lowest": lowest,
        "highest": highest, "filled": filled, "parity": parity, "last": last,
    }
    maker = makers[word]
    return maker(*values)


def answer_ready(shop, parts):
    """Keep a ready row: its name, its function and the arguments of this."""
    values = values_of(READY[parts[1]], parts[2:]) if len(parts) > 1 and parts[1] in READY else None
    if values is None:
        return WRONG
    return keep_row(shop, parts[0], ready_row(parts[1], values))


def answer_command(shop, parts):
    """Do the command with these parts."""
    word, given = parts[0], parts[1:]
    if word == "ready":
        return answer_ready(shop, given)
    if word == "promise" and len(given) > 1:
        # The sort stands behind the label.
        word, given = f"promise {given[1]}", given[:1] + given[2:]
    values = values_of(COMMANDS[word][0], given) if word in COMMANDS else None
    if values is None:
        return WRONG
    action = COMMANDS[word][1]
    return action(shop, *values)


def answer_safely(shop, parts):
    """Do the command with these parts, and tell an error by its word and what it keeps."""
    try:
        return answer_command(shop, parts)
    except UnknownName as unknown:
        return told(["unknown", unknown.name])
    except InvalidName:
        return "name"
    except InvalidWord:
        return "word"
    except InvalidInput:
        return "input"
    except InvalidOperation:
        return "operation"
    except InvalidNumber as wrong:
        return told(["number", wrong.value])
    except TooMany as more:
        return told(["many", more.limit])
    except Broken as broken:
        return told(["broken", broken.label])
    except SameOutput:
        return "unequal"
    except NothingToUndo as fewer:
        return told(["undo", fewer.many])


class Shell:
    """A shell over a workshop of its own."""

    def __init__(self):
        self.shop = Workshop()

    def __call__(self, line):
        return self.answer(line)

    def answer(self, line):
        """Do the command of a line, and return what it answers."""
        if not isinstance(line, str) or "\n" in line:
            return WRONG
        parts = line.split(" ")
        if "" in parts:
            return WRONG
        found = answer_safely(self.shop, parts)
        return "done" if found is None else found

    def workshop(self):
        """A twin of the workshop."""
        return self.shop.twin()

    def __repr__(self):
        return f"Shell over {self.shop!r}"
