"""Workshops: 0.1, 0.2, 0.4, 0.5, 1.2, 20.1 and stage 20."""

import copy
import itertools
import random

from slicerows.back.pairs import is_one_paper
from slicerows.desk.desk import MAX_KEPT, MAX_PROMISES, SORTS, Workshop
from slicerows.errors import Broken, InvalidInput, InvalidName, InvalidNumber, InvalidOperation, InvalidRow, InvalidWord
from slicerows.errors import NothingToUndo, TooMany, UnknownName
from slicerows.judge.alike import is_alike_paper
from slicerows.judge.least import least_row
from slicerows.numbers.conditions import Condition
from slicerows.numbers.meaning import is_meaning_paper
from slicerows.rows.joined import behind, repeated
from slicerows.rows.ready import copied, greater, later, negated, picked, sooner, subtracted, times
from slicerows.rows.rows import Row
from slicerows.text.shell import Shell
from tests.helpers import ADD, AGAIN, HALF, KINDS, ODD, TOP, Checks, doubled, is_key, not_columns, not_inputs, not_numbers
from tests.helpers import not_rows, not_whole, same, wide_row
from tests.test_decided import REACHED
from tests.test_meaning import copying
from tests.test_pairs import GRAY, constant

SUM = Condition("wrapped", (1, 1, -1), 0)
EQUAL = Condition("wrapped", (1, -1), 0)
# Too much to be looked at: more than 4000 triples, and more than 20000 pair states.
FAR = copying(REACHED[4001])
MANY = constant(10, 10, more=1)


def not_names():
    """Values that are no names."""
    return [value for value in KINDS if value != "x"] + ["", "A", "abcdefghi", "a b", "a1", "x\n", "1", ("x",), b"x", Workshop(), Shell()]


def not_kept(shop):
    """Values under which nothing is kept, also such that are no names at all."""
    return [value for value in not_names()] + ["nothing", "x"]


def state_of(shop):
    """All that can be seen of a workshop without changing it, and of what can be undone and done again."""
    other = shop.twin()
    seen = []
    for many in itertools.count():
        seen.append((other.names, [repr(other[name]) for name in other.names], repr(other.promises), str(other)))
        try:
            other.undo()
        except NothingToUndo:
            break
    other = shop.twin()
    while True:
        try:
            other.redo()
        except NothingToUndo:
            return seen
        seen.append((other.names, [repr(other[name]) for name in other.names], repr(other.promises), str(other)))


def filled():
    """A workshop with rows and promises of each sort."""
    shop = Workshop()
    shop.keep("sum", ADD)
    shop.keep("twin", AGAIN)
    shop.keep("gray", GRAY)
    shop.promise("same", ("alike", "sum", "twin"))
    shop.promise("oneway", ("left", "twin"))
    shop.promise("rule", ("means", "sum", SUM))
    shop.promise("only", ("single", "gray"))
    return shop


class Shops(Checks):
    def keeps(self, shop, error, call, *given):
        """Whether a call raises an error and changes nothing, also nothing of what can be undone."""
        before = state_of(shop)
        self.refuses(error, call, *given)
        self.holds(state_of(shop), before)

    def keeps_unknown(self, shop, call, *given):
        """Whether a call refuses all names and labels under which nothing is kept, with what it was passed."""
        for value in not_kept(shop):
            before = state_of(shop)
            with self.assertRaises(UnknownName) as caught:
                call(value, *given)
            self.holds(repr(caught.exception.name), repr(value))
            self.holds(state_of(shop), before)

    def breaks(self, shop, label, call, *given):
        """Whether a call is refused because of the promise with a label."""
        before = state_of(shop)
        with self.assertRaises(Broken) as caught:
            call(*given)
        self.holds(caught.exception.label, label)
        self.holds(state_of(shop), before)


class Rows(Shops):
    def test_constants(self):
        self.holds([MAX_KEPT, MAX_PROMISES, SORTS], [8, 8, ("alike", "left", "means", "single")])

    def test_a_new_workshop(self):
        shop = Workshop()
        self.holds([shop.names, shop.labels, shop.promises, len(shop), list(shop), str(shop), "sum" in shop],
                   [(), (), {}, 0, [], "workshop of 0 rows, 0 promises", False])
        self.assertTrue(shop == Workshop())

    def test_keep_and_drop(self):
        shop = Workshop()
        self.holds([shop.keep("b", ADD), shop.keep("a", HALF), shop.names, list(shop), len(shop), str(shop)],
                   [None, None, ("a", "b"), ["a", "b"], 2, "workshop of 2 rows, 0 promises"])
        self.assertTrue(shop["a"] == HALF and shop["b"] == ADD)
        self.holds([shop.keep("a", TOP), shop["a"] == TOP, shop.drop("b"), shop.names], [None, True, None, ("a",)])

    def test_names(self):
        shop = filled()
        self.holds([name in shop for name in ("sum", "twin", "gray", "same", "x")], [True, True, True, False, False])
        for value in not_names() + [None, 0, [], {}, ("sum",), shop]:
            self.assertIs(value in shop, False)
        self.holds([shop.names, tuple(shop), sorted(shop), [name for name in shop]],
                   [("gray", "sum", "twin"), ("gray", "sum", "twin"), ["gray", "sum", "twin"], ["gray", "sum", "twin"]])
        self.holds([shop.labels, list(shop.promises)], [("oneway", "only", "rule", "same"), ["oneway", "only", "rule", "same"]])

    def test_a_loop_may_change_the_workshop(self):
        shop = Workshop()
        for name in "abc":
            shop.keep(name, ADD)
        for name in shop:
            shop.drop(name)
        self.holds(len(shop), 0)

    def test_eight_rows_and_one_more(self):
        shop = Workshop()
        for name in "abcdefgh":
            shop.keep(name, HALF)
        self.keeps(shop, TooMany, shop.keep, "i", HALF)
        with self.assertRaises(TooMany) as caught:
            shop.keep("i", ADD)
        self.holds(caught.exception.limit, 8)
        self.holds([shop.keep("h", TOP), shop.drop("a"), shop.keep("i", ADD), len(shop)], [None, None, None, 8])
        self.keeps(shop, InvalidOperation, shop.keep, "h", ADD)

    def test_other_numbers_of_lines(self):
        shop = Workshop()
        shop.keep("x", HALF)
        for row in (ADD, copied(2), picked(1, (0, 0)), picked(2, (0,))):
            self.keeps(shop, InvalidOperation, shop.keep, "x", row)
            self.keeps(shop, InvalidOperation, shop.would_break, "x", row)
        shop.drop("x")
        self.holds(shop.keep("x", ADD), None)

    def test_rows_of_many_signals(self):
        shop = Workshop()
        row = wide_row(701, 60, 60, 3, 3)
        shop.keep("wide", row)
        self.assertTrue(shop["wide"] == row)
        shop.keep("far", repeated(later("0"), 5))
        self.holds(shop["far"].lefts, 32)
        shop.set_on("wide", 59, "111", 58)
        self.assertTrue(shop["wide"] == row.with_on(59, "111", 58))
        self.holds(shop.output("wide", ("", "", "")), ("", "", ""))

    def test_entries(self):
        shop = Workshop()
        shop.keep("sum", ADD)
        shop.keep("half", HALF)
        self.holds([shop.set_on("sum", 0, "11", 0), shop["sum"] == ADD.with_on(0, "11", 0)], [None, True])
        self.holds([shop.set_out("sum", 1, 0, "00", "0"), shop["sum"] == ADD.with_on(0, "11", 0).with_out(1, 0, "00", "0")], [None, True])
        self.holds([shop.set_back("half", 1, "0", 1), shop["half"] == HALF.with_back(1, "0", 1)], [None, True])
        self.holds([shop.shrink("sum"), shop["sum"] == least_row(ADD.with_on(0, "11", 0).with_out(1, 0, "00", "0"))], [None, True])
        self.holds(shop.output("half", ("011",)), HALF.with_back(1, "0", 1)(("011",)))

    def test_shrink(self):
        shop = Workshop()
        shop.keep("x", doubled(AGAIN))
        shop.promise("way", ("left", "x"))
        self.holds([shop.shrink("x"), shop["x"] == ADD, shop.shrink("x"), shop["x"] == ADD, shop.undo(many=2)], [None, True, None, True, 2])
        self.assertTrue(shop["x"] == doubled(AGAIN))

    def test_shrink_looks_at_nothing(self):
        shop = Workshop()
        shop.keep("x", constant(10, 10))
        shop.promise("way", ("left", "x"))
        shop.shrink("x")
        self.holds(shop["x"].lefts, 1)

    def test_equality(self):
        one, other = filled(), filled()
        self.assertTrue(one == other and not one != other)
        other.release("only")
        self.assertTrue(one != other)
        one.release("only")
        one.undo()
        one.redo()
        self.assertTrue(one == other)
        other.shrink("twin")
        self.assertTrue(one != other and one == one.twin())
        shop = Workshop()
        shop.keep("gray", GRAY)
        for value in KINDS + (Workshop(), Shell(), {}, {"gray": GRAY}):
            self.assertIs(shop == value, False)
            self.assertIs(shop != value, True)

    def test_what_is_iterated_over(self):
        for value in (Shell(), filled().trial(), ADD, SUM):
            with self.assertRaises(TypeError):
                iter(value)


class Errors(Shops):
    def test_keep(self):
        shop = filled()
        self.checks_in_order(shop.keep, ("new", InvalidName, not_names()), (ADD, InvalidRow, not_rows() + [shop]))
        self.checks_in_order(shop.would_break, ("sum", UnknownName, []), (ADD, InvalidRow, not_rows()))
        self.keeps_unknown(shop, shop.drop)
        self.keeps_unknown(shop, shop.shrink)
        self.keeps_unknown(shop, shop.release)
        self.keeps_unknown(shop, shop.paper)
        self.keeps_unknown(shop, shop.__getitem__)
        for value in ((None,), (("0", "0"),)):
            self.keeps_unknown(shop, shop.output, *value)
            self.keeps_unknown(shop, shop.would_break, *value)
        self.keeps_unknown(shop, shop.set_on, 9, None, 9)
        self.keeps_unknown(shop, shop.set_back, 0, "00", 0)
        self.keeps_unknown(shop, shop.set_out, None, 0, "00", "0")
        # A name is no label, and a label is no name.
        for call, name in ((shop.release, "sum"), (shop.paper, "sum"), (shop.drop, "same"), (shop.shrink, "same")):
            self.keeps(shop, UnknownName, call, name)

    def test_entries(self):
        shop = Workshop()
        shop.keep("sum", ADD)
        shop.keep("half", HALF)
        for call, many, column in ((lambda *given: shop.set_on("sum", *given), 2, "00"), (lambda *given: shop.set_back("half", *given), 2, "0")):
            self.checks_in_order(call, (0, InvalidNumber, not_numbers(0, many - 1)), (column, InvalidWord, not_columns(len(column))),
                                 (1, InvalidNumber, not_numbers(0, many - 1)))
        self.checks_in_order(lambda *given: shop.set_out("sum", *given), (1, InvalidNumber, not_numbers(0, 1)),
                             (0, InvalidNumber, not_numbers(0, 0)), ("11", InvalidWord, not_columns(2)), ("1", InvalidWord, not_columns(1)))

    def test_outputs(self):
        shop = filled()
        self.holds([shop.output("sum", ("0110", "1100")), shop.output("sum", ("", "")), shop.output("gray", ("0110",))],
                   [("1001",), ("",), ("1010",)])
        for words in not_inputs(2):
            self.keeps(shop, InvalidInput, shop.output, "sum", words)

    def test_errors_behind_then(self):
        shop = Workshop()
        for name in "abcdefgh":
            shop.keep(name, HALF)
        shop.promise("way", ("alike", "a", "b"))
        # Another row for a name of other lines, ahead of eight rows; all ahead of the promises.
        self.keeps(shop, InvalidOperation, shop.keep, "a", ADD)
        self.keeps(shop, InvalidRow, shop.keep, "i", None)
        self.keeps(shop, InvalidName, shop.keep, "I", ADD)
        self.keeps(shop, TooMany, shop.keep, "i", ADD)
        self.breaks(shop, "way", shop.keep, "a", TOP)
        self.keeps(shop, InvalidOperation, shop.drop, "a")
        self.keeps(shop, InvalidOperation, shop.drop, "b")
        self.holds([shop.release("way"), shop.drop("a")], [None, None])


class Promises(Shops):
    def test_each_sort(self):
        shop = filled()
        self.holds([shop.labels, shop.promises["same"], len(shop), str(shop)],
                   [("oneway", "only", "rule", "same"), ("alike", "sum", "twin"), 3, "workshop of 3 rows, 4 promises"])
        self.holds([repr(shop.promises["rule"]), shop.promises["only"]], [repr(("means", "sum", SUM)), ("single", "gray")])

    def test_promises_that_do_not_hold(self):
        shop = Workshop()
        for name, row in (("sum", ADD), ("less", subtracted()), ("half", HALF), ("odd", ODD), ("top", TOP)):
            shop.keep(name, row)
        for promise in (("alike", "sum", "less"), ("left", "half"), ("left", "odd"), ("single", "sum"), ("single", "odd"), ("means", "less", SUM),
                        ("means", "top", EQUAL)):
            self.breaks(shop, "x", shop.promise, "x", promise)
        for promise in (("alike", "sum", "sum"), ("left", "less"), ("means", "less", Condition("wrapped", (1, -1, -1), 0))):
            self.holds([shop.promise("x", promise), shop.release("x")], [None, None])

    def test_papers(self):
        shop = filled()
        self.assertTrue(is_alike_paper(ADD, AGAIN, shop.paper("same")))
        self.assertTrue(shop.paper("oneway") == ADD)
        self.assertTrue(is_meaning_paper(ADD, SUM, shop.paper("rule")))
        self.assertTrue(is_one_paper(GRAY, shop.paper("only")))
        self.holds([shop.paper(label)[0] for label in ("same", "rule", "only")], ["alike", "means", "one"])
        shop.shrink("twin")
        self.holds(shop.paper("same"), ("alike", ((0, 0), (1, 1)), ((0, 0),)))

    def test_values_that_are_no_promises(self):
        shop = filled()
        wrong = list(KINDS) + [
            ("alike",), ("alike", "sum"), ("alike", "sum", "twin", "gray"), ("alike", "sum", "none"), ("alike", "none", "sum"),
            ("alike", "sum", None), ("alike", ["sum"], "twin"), ["alike", "sum", "twin"], ("left",), ("left", "sum", "sum"), ("left", "none"),
            ("left", None), ("left", ("sum",)), ("single", "sum", None), ("single", []), ("means", "sum"), ("means", "sum", None), ("means", SUM, "sum"),
            ("means", "none", SUM), ("means", "sum", "twin"), ("means", "sum", SUM, SUM), ("Left", "sum"), ("right", "sum"), (None, "sum"),
            (True, "sum"), (("left",), "sum"), ("left", "same"), ("left", "sum", SUM), ("", "sum", SUM), (0, "sum", SUM), ("alike", "sum", SUM), {"left": "sum"}, "left", ("left", "SUM"), ("means", "sum", ADD)]
        self.checks_in_order(shop.promise, ("x", InvalidName, not_names()), (("left", "sum"), InvalidOperation, wrong))
        self.holds([shop.promise("x", ("left", "sum")), len(shop.labels)], [None, 5])

    def test_labels_and_lines(self):
        shop = filled()
        shop.keep("half", HALF)
        for promise in (("left", "sum"), ("alike", "sum", "twin")):
            self.keeps(shop, InvalidOperation, shop.promise, "same", promise)
        for promise in (("alike", "sum", "gray"), ("means", "sum", EQUAL), ("means", "half", SUM), ("alike", "gray", "twin")):
            self.keeps(shop, InvalidOperation, shop.promise, "x", promise)
        # A label that is taken already is refused although the promise would not hold.
        self.keeps(shop, InvalidOperation, shop.promise, "same", ("left", "half"))
        # A name and a label can be the same.
        self.holds([shop.promise("sum", ("left", "sum")), shop.paper("sum") == ADD], [None, True])

    def test_eight_promises_and_one_more(self):
        shop = Workshop()
        shop.keep("x", negated())
        for label in "abcdefgh":
            shop.promise(label, ("left", "x"))
        self.keeps(shop, TooMany, shop.promise, "i", ("left", "x"))
        self.keeps(shop, TooMany, shop.promise, "i", ("alike", "x", "x"))
        self.keeps(shop, InvalidOperation, shop.promise, "a", ("left", "x"))
        self.keeps(shop, InvalidOperation, shop.promise, "i", ("means", "x", SUM))
        shop.keep("sum", ADD)
        self.keeps(shop, InvalidOperation, shop.promise, "i", ("alike", "x", "sum"))
        with self.assertRaises(TooMany) as caught:
            shop.promise("i", ("single", "x"))
        self.holds(caught.exception.limit, 8)
        self.holds([shop.release("d"), shop.promise("i", ("single", "x")), shop.labels[-1]], [None, None, "i"])

    def test_calls_that_would_break_promises(self):
        shop = filled()
        self.breaks(shop, "rule", shop.keep, "sum", subtracted())
        self.breaks(shop, "same", shop.keep, "twin", subtracted())
        self.breaks(shop, "only", shop.keep, "gray", HALF)
        self.breaks(shop, "rule", shop.set_on, "sum", 0, "11", 0)
        self.breaks(shop, "rule", shop.set_out, "sum", 1, 0, "11", "0")
        self.holds([shop.set_on("twin", 2, "00", 2), shop.keep("twin", ADD), shop.keep("sum", AGAIN)], [None, None, None])
        shop.keep("half", HALF)
        shop.keep("other", HALF)
        shop.promise("a", ("alike", "half", "half"))
        self.holds(shop.set_back("half", 1, "0", 1), None)
        shop.undo()
        shop.promise("b", ("alike", "other", "half"))
        self.breaks(shop, "b", shop.set_back, "half", 1, "0", 1)
        self.breaks(shop, "b", shop.set_back, "other", 0, "1", 0)

    def test_the_order_of_the_labels(self):
        shop = Workshop()
        shop.keep("x", negated())
        shop.keep("y", negated())
        shop.promise("c", ("single", "x"))
        shop.promise("b", ("left", "x"))
        shop.promise("d", ("alike", "y", "x"))
        for row, labels in ((HALF, ("b", "c", "d")), (later("0"), ("c", "d")), (GRAY, ("b", "d")), (copied(1), ("d",)), (negated(), ())):
            self.holds(shop.would_break("x", row), labels)
            if labels:
                self.breaks(shop, labels[0], shop.keep, "x", row)
            else:
                self.holds(shop.keep("x", row), None)
        self.holds([shop.would_break("y", GRAY), shop.would_break("y", negated())], [("d",), ()])

    def test_would_break_changes_nothing(self):
        shop = filled()
        before = state_of(shop)
        self.holds([shop.would_break("sum", subtracted()), shop.would_break("sum", AGAIN), shop.would_break("gray", HALF)],
                   [("rule", "same"), (), ("only",)])
        self.holds(state_of(shop), before)

    def test_too_many_of_a_promise_that_is_looked_at(self):
        shop = Workshop()
        shop.keep("x", negated())
        shop.keep("one", copied(1))
        shop.promise("s", ("single", "x"))
        for call in (shop.keep, shop.would_break):
            self.keeps(shop, TooMany, call, "x", MANY)
            with self.assertRaises(TooMany) as caught:
                call("x", MANY)
            self.holds(caught.exception.limit, 20000)
        # An earlier promise that would not hold comes first, but not a later one; all are looked at by would_break.
        shop.promise("a", ("alike", "x", "x"))
        shop.promise("r", ("means", "x", Condition("wrapped", (1, 1), 0)))
        self.breaks(shop, "r", shop.keep, "x", MANY)
        self.keeps(shop, TooMany, shop.would_break, "x", MANY)
        shop.release("r")
        shop.promise("t", ("means", "x", Condition("wrapped", (1, 1), 0)))
        self.keeps(shop, TooMany, shop.keep, "x", MANY)
        with self.assertRaises(TooMany) as caught:
            shop.promise("f", ("means", "one", FAR))
        self.holds(caught.exception.limit, 4000)
        shop.keep("many", MANY)
        self.keeps(shop, TooMany, shop.promise, "f", ("single", "many"))
        self.keeps(shop, TooMany, shop.promise, "f", ("means", "one", FAR))

    def test_only_promises_that_name_the_row_are_looked_at(self):
        shop = Workshop()
        shop.keep("x", constant(10, 10))
        shop.keep("y", HALF)
        shop.promise("way", ("left", "x"))
        self.holds([shop.keep("y", TOP), shop.would_break("y", ODD)], [None, ()])

    def test_promises_hold_at_all_times(self):
        source = random.Random(703)
        shop = filled()
        rows = [ADD, AGAIN, subtracted(), greater(), GRAY, HALF, negated(), ADD.with_on(1, "00", 1), times(3)]
        done = 0
        for _ in range(300):
            name = source.choice(shop.names)
            call = source.choice((lambda: shop.keep(name, source.choice(rows)), lambda: shop.shrink(name), lambda: shop.undo(many=source.randint(0, 3)),
                                  lambda: shop.redo(many=source.randint(0, 2)), lambda: shop.set_on(name, 0, "0" * shop[name].inputs, 0),
                                  lambda: shop.set_out(name, 0, 0, "1" * shop[name].inputs, "0"), lambda: shop.release(source.choice(shop.labels)),
                                  lambda: shop.promise(source.choice("abc"), ("left", name)), lambda: shop.promise("z", ("single", name))))
            before = state_of(shop)
            try:
                call()
                done += 1
            except (Broken, InvalidOperation, NothingToUndo, TooMany, IndexError):
                self.holds(state_of(shop), before)
            for label in shop.labels:
                shop.paper(label)
            if len(shop) < 3:
                shop.redo()
        self.assertGreater(done, 80)


class Undoing(Shops):
    def calls(self):
        """The eight calls, in an order in which all can be done."""
        return [lambda shop: shop.keep("b", AGAIN), lambda shop: shop.keep("a", HALF), lambda shop: shop.set_on("b", 2, "00", 2),
                lambda shop: shop.set_back("a", 1, "0", 1), lambda shop: shop.set_out("a", 0, 1, "0", "0"),
                lambda shop: shop.promise("way", ("left", "b")), lambda shop: shop.shrink("b"), lambda shop: shop.drop("a"),
                lambda shop: shop.release("way")]

    def test_each_call(self):
        shop = Workshop()
        seen = [Workshop()]
        for at, call in enumerate(self.calls()):
            self.holds(call(shop), None)
            seen.append(shop.twin())
            self.assertTrue(seen[at] != seen[at + 1])
        many = len(seen) - 1
        for at in range(many, 0, -1):
            self.assertTrue(shop == seen[at])
            self.holds(shop.undo(), at - 1)
        for at in range(1, many + 1):
            self.holds(shop.redo(), at)
            self.assertTrue(shop == seen[at])
        for back in range(many + 1):
            for again in range(back + 1):
                self.holds([shop.undo(many=back), shop == seen[many - back]], [many - back, True])
                self.holds([shop.redo(many=again), shop == seen[many - back + again]], [many - back + again, True])
                self.holds(shop.redo(many=back - again), many)
        self.assertTrue(shop == seen[-1])

    def test_calls_that_change_nothing_count_too(self):
        shop = Workshop()
        shop.keep("x", ADD)
        self.holds([shop.keep("x", ADD), shop.shrink("x"), shop.set_on("x", 0, "00", 0), shop.undo(many=0), shop.undo(many=4)],
                   [None, None, None, 4, 0])

    def test_too_many(self):
        shop = filled()
        for many in (8, 9, 10 ** 199):
            for call in (shop.undo, shop.redo):
                before = state_of(shop)
                with self.assertRaises(NothingToUndo) as caught:
                    call(many=many)
                self.holds(caught.exception.many, many)
                self.holds(state_of(shop), before)
        self.holds([shop.undo(many=7), shop.redo(many=7), shop.undo(), shop.redo()], [0, 7, 6, 7])
        self.holds([shop.undo(many=0), shop.redo(many=0)], [7, 7])
        self.keeps(shop, NothingToUndo, shop.redo)

    def test_errors(self):
        shop = filled()
        for value in not_whole() + [-1, -10 ** 199]:
            self.keeps(shop, (InvalidNumber, value), lambda many: shop.undo(many=many), value)
            self.keeps(shop, (InvalidNumber, value), lambda many: shop.redo(many=many), value)
        for call in (shop.undo, shop.redo):
            with self.assertRaises(TypeError):
                call(1)

    def test_a_new_call_ends_redoing(self):
        for call in self.calls()[:1] + [lambda shop: shop.keep("x", TOP), lambda shop: shop.shrink("twin"), lambda shop: shop.release("same"),
                                        lambda shop: shop.promise("more", ("left", "sum")), lambda shop: shop.set_on("twin", 0, "00", 0)]:
            shop = filled()
            shop.keep("more", HALF)
            shop.undo()
            call(shop)
            self.keeps(shop, NothingToUndo, shop.redo)
            self.holds(shop.redo(many=0), 8)

    def test_refused_calls_do_not_end_redoing(self):
        shop = filled()
        shop.undo(many=2)
        self.keeps(shop, UnknownName, shop.drop, "none")
        self.breaks(shop, "same", shop.keep, "sum", subtracted())
        self.keeps(shop, InvalidOperation, shop.promise, "x", None)
        self.holds([shop.redo(many=2), shop.labels], [7, ("oneway", "only", "rule", "same")])

    def test_very_many_calls(self):
        shop = Workshop()
        for at in range(2000):
            shop.keep("x", (HALF, TOP)[at % 2])
        self.holds([shop.undo(many=1999), shop["x"] == HALF, shop.redo(many=1998), shop["x"] == HALF, shop.undo(many=1999)],
                   [1, True, 1999, True, 0])


class Blocks(Shops):
    def test_blocks(self):
        shop = filled()
        shop.undo(many=2)
        before = state_of(shop)
        with shop.trial() as same:
            self.assertIs(same, shop)
            shop.redo()
            shop.release("same")
            shop.keep("sum", subtracted().with_on(0, "00", 0)) if "rule" not in shop.labels else shop.release("rule")
            self.assertTrue(state_of(shop) != before)
        self.holds(state_of(shop), before)
        self.holds([shop.during(lambda same: same.undo(many=5)), shop.redo(many=2)], [0, 7])

    def test_blocks_that_end_by_an_error(self):
        shop = filled()
        before = state_of(shop)
        for error in (KeyError("x"), Broken("x"), RuntimeError("x"), KeyboardInterrupt()):
            with self.assertRaises(type(error)) as caught:
                with shop.trial() as same:
                    same.undo(many=5)
                    raise error
            self.assertIs(caught.exception, error)
            self.holds(state_of(shop), before)

        def fails(same):
            same.release("rule")
            same.keep("sum", subtracted())
        with self.assertRaises(Broken):
            shop.during(fails)
        self.holds(state_of(shop), before)

    def test_blocks_in_blocks(self):
        shop = filled()
        outer = state_of(shop)
        with shop.trial():
            shop.undo(many=3)
            inner = state_of(shop)
            with shop.trial() as same:
                same.redo()
                same.keep("new", HALF)
                self.holds(shop.during(lambda deep: deep.undo(many=6)), 0)
                self.assertTrue("new" in shop)
            self.holds(state_of(shop), inner)
            shop.keep("last", TOP)
        self.holds(state_of(shop), outer)

    def test_a_block_that_is_gone_through_again(self):
        shop = filled()
        block = shop.trial()
        shop.release("only")
        first = state_of(shop)
        with block:
            shop.undo(many=2)
            second = state_of(shop)
            with block as same:
                same.undo()
            self.holds(state_of(shop), second)
        self.holds(state_of(shop), first)
        shop.release("rule")
        third = state_of(shop)
        with block:
            shop.undo(many=4)
        self.holds(state_of(shop), third)

    def test_during(self):
        shop = filled()
        before = state_of(shop)
        self.holds([shop.during(lambda same: same is shop), shop.during(lambda same: None), shop.during(len)], [True, None, 3])
        self.holds(shop.during(lambda same: [same.release("only"), same.drop("gray"), same.names]), [None, None, ("sum", "twin")])
        self.holds(state_of(shop), before)


class Twins(Shops):
    def test_twins_go_their_own_way(self):
        shop = filled()
        shop.undo()
        twin = shop.twin()
        before = state_of(shop)
        self.assertTrue(twin == shop and twin is not shop)
        self.holds(state_of(twin), before)
        twin.redo()
        twin.keep("new", HALF)
        self.holds(state_of(shop), before)
        after = state_of(twin)
        shop.undo(many=6)
        shop.keep("x", ADD)
        self.holds(state_of(twin), after)
        with shop.trial():
            inner = shop.twin()
            shop.drop("x")
        self.holds([inner.names, inner.undo(), "x" in shop], [("x",), 0, True])

    def test_nothing_is_shared(self):
        shop = filled()
        promises = shop.promises
        promises["more"] = ("left", "sum")
        del promises["same"]
        self.holds([shop.labels, tuple(shop.promises)], [("oneway", "only", "rule", "same")] * 2)
        self.assertIsNot(shop.promises, shop.promises)
        paper = shop.paper("rule")
        self.holds(paper, shop.paper("rule"))
        self.holds(same(state_of(shop), state_of(shop)), True)

    def test_deep_copies(self):
        shop = filled()
        other = copy.deepcopy(shop)
        self.assertTrue(shop == other)
        other.drop("gray") if not other.release("only") else None
        self.assertTrue(shop != other and "gray" in shop)

    def test_values_as_keys(self):
        # What a workshop is asked for can be anything, also what can be no key.
        self.assertTrue(any([not is_key(value) for value in not_kept(Workshop())]))

    def test_least_rows_and_joined_rows(self):
        shop = Workshop()
        shop.keep("x", behind(times(7), times(5)))
        shop.promise("way", ("left", "x"))
        shop.promise("rule", ("means", "x", Condition("wrapped", (35, -1), 0)))
        shop.promise("only", ("single", "x"))
        self.holds([shop["x"].lefts, shop.paper("way").lefts, shop.would_break("x", sooner("0")), shop.would_break("x", Row(((0, 0),), ((0, 0),), ((("1", "1"),),)))],
                   [35, 35, ("only", "rule", "way"), ("only", "rule")])
