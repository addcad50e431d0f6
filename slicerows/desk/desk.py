"""Workshops: rows under names, and promises that hold at all times."""

from slicerows.base.bits import is_name, is_whole
from slicerows.desk.promises import has_lines_of, has_row, is_held, is_promise, names_in, need_fitting_promise, paper_of
from slicerows.errors import Broken, InvalidName, InvalidNumber, InvalidOperation, NothingToUndo, TooMany, UnknownName
from slicerows.judge.least import least_row
from slicerows.rows.rows import need_row

MAX_KEPT = 8
MAX_PROMISES = 8
SORTS = ("alike", "left", "means", "single")


def need_name(value):
    """Raise unless a value is a name."""
    if not is_name(value):
        raise InvalidName("not a name")


def with_entry(table, key, entry):
    """A dict with one more entry, or another one, its keys ascending."""
    found = {name: table[name] for name in table}
    found[key] = entry
    return {name: found[name] for name in sorted(list(found))}


def without_entry(table, key):
    """A dict without an entry."""
    return {name: table[name] for name in table if name != key}


def gone(now, stack, other, many):
    """What is there when so many of a stack have been gone back to, and both stacks then; the last ones come first."""
    if many == 0:
        return now, stack, other
    back = stack[-many:][::-1]
    return back[-1], stack[:-many], other + (now,) + back[:-1]


class Moment:
    """What a workshop has at one time, and what was there ahead of calls that can be undone. It never changes."""

    def __init__(self, rows, told, past, later):
        self.rows = rows
        self.told = told
        self.past = past
        self.later = later


class Held:
    """The moment at the beginning of a block, and what was held already when it began."""

    def __init__(self, moment, outer):
        self.moment = moment
        self.outer = outer


class Trial:
    """A block at whose end a workshop is as it was at its beginning."""

    def __init__(self, shop):
        self.shop = shop
        self.held = None

    def __enter__(self):
        self.held = Held(self.shop.moment, self.held)
        return self.shop

    def __exit__(self, kind, value, trace):
        self.shop.moment = self.held.moment
        self.held = self.held.outer


class Workshop:
    """Rows under names, and promises under labels."""

    def __init__(self):
        self.moment = Moment({}, {}, (), ())

    def keep(self, name, row):
        """Keep a row under a name."""
        need_name(name)
        need_row(row)
        self._need_lines(name, row)
        if name not in self.moment.rows and len(self.moment.rows) >= MAX_KEPT:
            raise TooMany(MAX_KEPT)
        self._put(name, row)

    def drop(self, name):
        """Take a row away."""
        self._need_known(name)
        if any([name in names_in(promise) for promise in list(self.moment.told.values())]):
            raise InvalidOperation("a promise names the row")
        self._go_on(without_entry(self.moment.rows, name), self.moment.told)

    def set_on(self, name, signal, column, other):
        """Keep the row that hands on another signal from the left."""
        self._put(name, self[name].with_on(signal, column, other))

    def set_back(self, name, signal, column, other):
        """Keep the row that hands on another signal from the right."""
        self._put(name, self[name].with_back(signal, column, other))

    def set_out(self, name, left, right, column, output):
        """Keep the row that makes another output column."""
        self._put(name, self[name].with_out(left, right, column, output))

    def shrink(self, name):
        """Keep the least row of a row. All promises go on to hold, because it is alike."""
        self._go_on(with_entry(self.moment.rows, name, least_row(self[name])), self.moment.told)

    def promise(self, label, promise):
        """Keep a promise under a label."""
        need_name(label)
        rows, told = self.moment.rows, self.moment.told
        if not is_promise(rows, promise):
            raise InvalidOperation("not a promise on rows of the workshop")
        if label in told:
            raise InvalidOperation("the label has a promise already")
        need_fitting_promise(rows, promise)
        if len(told) >= MAX_PROMISES:
            raise TooMany(MAX_PROMISES)
        if not is_held(rows, promise):
            raise Broken(label)
        self._go_on(rows, with_entry(told, label, promise))

    def release(self, label):
        """Take a promise away."""
        self._need_label(label)
        self._go_on(self.moment.rows, without_entry(self.moment.told, label))

    def output(self, name, words):
        """The output of a row for an input."""
        return self[name].made(words)

    def paper(self, label):
        """A paper that a promise holds."""
        self._need_label(label)
        return paper_of(self.moment.rows, self.moment.told[label])

    def would_break(self, name, row):
        """The labels of the promises that would not hold if a row was kept under a name that has one."""
        self._need_known(name)
        need_row(row)
        self._need_lines(name, row)
        rows = with_entry(self.moment.rows, name, row)
        return tuple([label for label, promise in self._naming(name) if not is_held(rows, promise)])

    def undo(self, *, many=1):
        """Take back so many calls, and tell how many more can be."""
        now, past, later = self._moved(self.moment.past, self.moment.later, many)
        self.moment = Moment(now[0], now[1], past, later)
        return len(past)

    def redo(self, *, many=1):
        """Do so many calls again that were taken back, and tell how many can be undone then."""
        now, later, past = self._moved(self.moment.later, self.moment.past, many)
        self.moment = Moment(now[0], now[1], past, later)
        return len(past)

    def trial(self):
        """A block at whose end the workshop is as it was at its beginning."""
        return Trial(self)

    def during(self, call):
        """What a call returns for the workshop, which is then as it was ahead."""
        with self.trial() as same:
            return call(same)

    def twin(self):
        """An independent copy, with all that can be undone and done again."""
        found = Workshop()
        found.moment = self.moment
        return found

    @property
    def names(self):
        """The names, ascending."""
        return tuple(self.moment.rows)

    @property
    def labels(self):
        """The labels, ascending."""
        return tuple(self.moment.told)

    @property
    def promises(self):
        """The promises under their labels."""
        return {label: self.moment.told[label] for label in self.moment.told}

    def __getitem__(self, at):
        self._need_known(at)
        return self.moment.rows[at]

    def __contains__(self, x):
        return has_row(self.moment.rows, x)

    def __len__(self):
        return len(self.moment.rows)

    def __iter__(self):
        return iter(self.moment.rows)

    def __eq__(self, other):
        return (isinstance(other, Workshop) and self.moment.rows == other.moment.rows
                and self.moment.told == other.moment.told)

    def __str__(self):
        return f"workshop of {len(self.moment.rows)} rows, {len(self.moment.told)} promises"

    def __repr__(self):
        return f"Workshop of {self.moment.rows!r} and {self.moment.told!r}"

    def _need_known(self, name):
        """Raise unless a value is a name that has a row."""
        if not has_row(self.moment.rows, name):
            raise UnknownName(name)

    def _need_label(self, label):
        """Raise unless a value is a label that has a promise."""
        if not is_name(label) or label not in self.moment.told:
            raise UnknownName(label)

    def _need_lines(self, name, row):
        """Raise if a name has a row with other numbers of lines."""
        if name in self.moment.rows and not has_lines_of(self.moment.rows[name], row):
            raise InvalidOperation("the name has a row with other numbers of lines")

    def _naming(self, name):
        """The pairs of a label and a promise of all promises that name a row, in order of the labels."""
        return [(label, promise) for label, promise in self.moment.told.items() if name in names_in(promise)]

    def _put(self, name, row):
        """Keep a row under a name, if all promises that name it hold then."""
        rows = with_entry(self.moment.rows, name, row)
        for label, promise in self._naming(name):
            if not is_held(rows, promise):
                raise Broken(label)
        self._go_on(rows, self.moment.told)

    def _go_on(self, rows, told):
        """Have other rows and promises, so that the call can be undone, and nothing be done again."""
        self.moment = Moment(rows, told, self.moment.past + ((self.moment.rows, self.moment.told),), ())

    def _moved(self, stack, other, many):
        """The rows and promises so many calls away, and both stacks then."""
        if not is_whole(many) or many < 0:
            raise InvalidNumber(many)
        if many > len(stack):
            raise NothingToUndo(many)
        return gone((self.moment.rows, self.moment.told), stack, other, many)
